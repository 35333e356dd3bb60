/- Contract: covered. -/
import Derived.Test.YtgbmigfamefenaaCvM
namespace Go.Proofs.Ytgbmigfamefenaa
open Go.Shelf Go.RowKit Go.Maps Go.Sort
set_option linter.unusedVariables false

/-- A row of stretches that may be read. -/
structure Sts (w : World) (v : Value) (l : List S3) : Prop where
  ex : ∃ a c, v = .slice a l.length c ∧ l.length ≤ c ∧ c ≤ maxLen ∧ ((a = none ∧ c = 0) ∨ ∃ b, a = some ⟨b, 0, none⟩ ∧ ∀ i (hi : i < l.length), At5 w b (i * 5) l[i])
theorem Sts.below {w w' : World} {v : Value} {l : List S3} (h : Sts w v l) (hb : Below w.heap.size w w') : Sts w' v l := by
  obtain ⟨a, c, h1, h2, h3, h4⟩ := h.ex
  refine ⟨a, c, h1, h2, h3, ?_⟩
  rcases h4 with q | ⟨b, q, h5⟩
  · exact .inl q
  · exact .inr ⟨b, q, fun i hi => (h5 i hi).below hb⟩
theorem Sts.of {w : World} {base : Nat} {v : Value} {l : List S3} (h : OwS w base v l) : Sts w v l := ⟨h.at5⟩
set_option maxRecDepth 100000 in
set_option maxHeartbeats 3200000 in
theorem cvc (bk bb b n cap i : Nat) (k : K3) (s : S3) (W : World) (hi : i < n) (hk : BxA W bk 55 #[.int .i64 k.1, .int .i64 k.2.1, .int .i64 k.2.2]) (hv : W.cell? ⟨bb, 0, none⟩ = some (.slice (some ⟨b, 0, none⟩) n cap)) (hs : At5 W b (i * 5) s) :
    Calls Try.prog 58 (#[.int .i64 i] ++ #[.pointer (some ⟨bk, 0, none⟩), .pointer (some ⟨bb, 0, none⟩)]) W fun e w' => e = .returned (.bool (decide (k.1 < s.2.2))) ∧ ∃ q os, w' = grow (W.drewN q) os := by
  have mixed : Try.prog.follows .mixedOrders = true := by kernel_rfl
  obtain ⟨a1, a2, a3⟩ := k
  obtain ⟨⟨b1, b2, b3⟩, s1, s2⟩ := s
  have hc4 : W.cell? ⟨b, i * 5 + 3 + 1, none⟩ = some (.int .i64 s2) := hs.c4
  simp only at hk
  have x0 := fun nq os => gro_cell (hk.cell 0 _ rfl) nq os
  have y := fun nq os => gro_cell hv nq os
  have y0 := fun nq os => gro_cell hc4 nq os
  have hiz : (i : Int) < (n : Int) := by omega
  clear hk hv hs hc4
  go_enter Try.func58, Try.ntmps58
  go_wp2_with fail
  refine wp_region_quiet_grown (by assumption) (by kernel_rfl) ?_
  repeat (go_big_quiet_step (first | fail))
  refine wpQuiet_nil ?_
  intro _ hw'
  obtain ⟨⟨nq, osq⟩, hw''⟩ := hw'
  subst hw''
  go_wp2_with fail
  go_ret
  exact ⟨rfl, _, _, rfl⟩
set_option maxRecDepth 100000 in
set_option maxHeartbeats 6400000 in
theorem covered_any (w : World) (k : K3) (v : Value) (out : List S3) (h : Sts w v out) (hr : out.Pairwise fun a b => a.2.2 ≤ b.2.2) (hlen : out.length ≤ 200000) :
    Calls Try.prog 40 #[kv k, v] w fun e w' => e = .returned (.bool (cov k out)) ∧ Grows w w' := by
  have mixed : Try.prog.follows .mixedOrders = true := by kernel_rfl
  obtain ⟨va, vc, hve, hvc1, hvc2, hvc⟩ := h.ex
  obtain ⟨W0, hW0⟩ : ∃ W0, W0 = (w.alloc (.cells #[.int .i64 k.1, .int .i64 k.2.1, .int .i64 k.2.2] 55)).alloc (.cells #[v] 50) := ⟨_, rfl⟩
  have hs : (w.alloc (.cells #[.int .i64 k.1, .int .i64 k.2.1, .int .i64 k.2.2] 55)).heap.size = w.heap.size + 1 := by simp
  have hsz : W0.heap.size = w.heap.size + 2 := by rw [hW0]; simp
  have hG0 : Grows w W0 := by rw [hW0]; exact (Grows.alloc _ _).trans (Grows.alloc _ _)
  have hbk : BxA W0 w.heap.size 55 #[.int .i64 k.1, .int .i64 k.2.1, .int .i64 k.2.2] := by
    rw [hW0]
    unfold BxA
    rw [Below.heap_alloc _ _ _ (by rw [hs]; omega)]
    exact BxA.new _ _ _
  have hbv : BxA W0 (w.heap.size + 1) 50 #[v] := by
    rw [hW0, ← hs]
    exact BxA.new _ _ _
  have eg : ∀ args w, (callFunc 58 args).run Try.prog w = .ok (.enter 58 args) w := enters_of Try.func58 (by kernel_rfl) rfl
  have hbig : out.length < 4611686018427387904 := by omega
  have hS := Any.sort_Search srchL 58 #[.pointer (some ⟨w.heap.size, 0, none⟩), .pointer (some ⟨w.heap.size + 1, 0, none⟩)] out.length (fun i => decide (k.1 < (out.getD i s00).2.2)) W0 eg hbig
    (fun m os i hi => by
      have hvc' : ∃ b, va = some ⟨b, 0, none⟩ ∧ ∀ i (hi : i < out.length), At5 w b (i * 5) out[i] := by
        rcases hvc with ⟨_, q⟩ | q
        · omega
        · exact q
      obtain ⟨b, rfl, hcs⟩ := hvc'
      have e : out.getD i s00 = out[i] := by simp [List.getD, hi]
      rw [e]
      have hb2 : Below w.heap.size w (grow (W0.drewN m) os) := (hG0.trans ⟨m, os, rfl⟩).below
      refine cvc w.heap.size (w.heap.size + 1) b out.length vc i k out[i] _ hi ?_ ?_ ((hcs i hi).below hb2)
      · unfold BxA
        rw [(gro_below W0 m os).block _ hbk.lt]
        exact hbk
      · rw [← hve]
        exact gro_cell (hbv.cell 0 _ rfl) m os)
    (fun a b hab hbl ha => by
      have ea : out.getD a s00 = out[a] := by simp [List.getD, show a < out.length by omega]
      have eb : out.getD b s00 = out[b] := by simp [List.getD, hbl]
      rw [ea, decide_eq_true_iff] at ha
      rw [eb, decide_eq_true_iff]
      by_cases q : a = b
      · subst q; exact ha
      · have := List.pairwise_iff_getElem.1 hr a b (by omega) hbl (by omega)
        omega)
  rw [cvAt_range] at hS
  change Calls Try.prog 57 _ _ _ at hS
  have hat := cvAt_le k out
  have hcov : cov k out = covF k k.1 ((out.drop (cvAt k out)).drop 0) := rfl
  obtain ⟨f, hf⟩ : ∃ f, f = cvAt k out := ⟨_, rfl⟩
  obtain ⟨C, hCv⟩ : ∃ C, C = cov k out := ⟨_, rfl⟩
  rw [← hf] at hS hat hcov
  rw [← hCv] at hcov ⊢
  have HCV := hide hcov
  have HAt : Hid (∀ i (hi : f + i < out.length), ∃ b, va = some ⟨b, 0, none⟩ ∧ At5 w b ((f + i) * 5) out[f + i]) := by
    apply hide
    intro i hi
    rcases hvc with ⟨_, q⟩ | ⟨b, q, hcs⟩
    · omega
    · exact ⟨b, q, hcs (f + i) hi⟩
  have HG0 := hide hG0
  have HBK := hide hbk
  have hvn : va = none → vc = 0 := fun q => by
    rcases hvc with ⟨_, q2⟩ | ⟨b, q2, _⟩
    · exact q2
    · rw [q] at q2; cases q2
  have hvs : ∀ a, va = some a → ∃ b, a = ⟨b, 0, none⟩ := fun a q => by
    rcases hvc with ⟨q2, _⟩ | ⟨b, q2, _⟩
    · rw [q2] at q; cases q
    · rw [q2] at q; cases q; exact ⟨b, rfl⟩
  have b0 : ∀ q os, (grow (W0.drewN q) os).cell? ⟨w.heap.size + 1, 0, none⟩ = some v := fun q os => gro_cell (hbv.cell 0 _ rfl) q os
  have b1 : W0.cell? ⟨w.heap.size + 1, 0, none⟩ = some v := hbv.cell 0 _ rfl
  have hk0 : ∀ q os, (grow (W0.drewN q) os).cell? ⟨w.heap.size, 0, none⟩ = some (.int .i64 k.1) := fun q os => gro_cell (hbk.cell 0 _ rfl) q os
  obtain ⟨k1, k2, k3⟩ := k
  unfold kv
  simp only at hW0 hS hk0 ⊢
  obtain ⟨n, hn⟩ : ∃ n, n = out.length := ⟨_, rfl⟩
  rw [← hn] at hS hve hat hvc1 hlen
  have HN := hide hn
  have HW := hide hW0
  unfold maxLen at hvc2
  subst hve
  clear hW0 hvc h hr hf hCv hcov hbv hbk hs hG0 hn hbig
  go_enter Try.func40, Try.ntmps40
  go_wp2_with fail
  rw [← HW.out]
  go_at_call 57
  refine hS.mono ?_
  rintro e w2 ⟨rfl, q, os, rfl⟩
  have b0' := b0 q os
  have hk0' := hk0 q os
  have HG2 : Hid (Grows W0 (grow (W0.drewN q) os)) := ⟨q, os, rfl⟩
  obtain ⟨W2, hW2⟩ : ∃ W2, W2 = grow (W0.drewN q) os := ⟨_, rfl⟩
  rw [← hW2] at b0' hk0' HG2 ⊢
  clear hW2 b0 hk0 hS b1
  have hk1' : W2.cell? ⟨w.heap.size, 1, none⟩ = some (.int .i64 k2) := ((Grows.below HG2.out).cell (by exact HBK.out.lt)).trans (HBK.out.cell 1 _ rfl)
  cases va with
  | none =>
    have hv0 := hvn rfl
    subst hv0
    have hn0 : n = 0 := by omega
    have hf0 : f = 0 := by omega
    subst hn0
    subst hf0
    have HC0 : Hid (C = decide (k2 ≤ k1)) := by
      apply hide
      rw [HCV.out, List.drop_zero, List.drop_of_length_le (by have := HN.out; omega)]
      rfl
    go_wp2_with fail
    go_loopg [6, 8, 20] 0 (fun _ v6 _ v20 wr => v6 = .int .i64 k1 ∧ v20 = .int .i64 0 ∧ wr = W2)
    case atStart => exact ⟨rfl, rfl, rfl⟩
    case round =>
      obtain ⟨rfl, rfl, rfl⟩ := hrel
      go_wp2_with fail
      go_ret
      exact ⟨by rw [HC0.out]; rfl, HG0.out.trans HG2.out⟩
  | some a =>
    obtain ⟨b, rfl⟩ := hvs a rfl
    by_cases hcf : vc = f
    · have hnf : n = f := by omega
      subst hnf
      subst hcf
      have HC0 : Hid (C = decide (k2 ≤ k1)) := by
        apply hide
        rw [HCV.out, List.drop_zero, List.drop_of_length_le (by have := HN.out; omega)]
        rfl
      go_wp2_with fail
      go_loopg [6, 8, 20] 0 (fun _ v6 _ v20 wr => v6 = .int .i64 k1 ∧ v20 = .int .i64 0 ∧ wr = W2)
      case atStart => exact ⟨rfl, rfl, rfl⟩
      case round =>
        obtain ⟨rfl, rfl, rfl⟩ := hrel
        go_wp2_with fail
        go_ret
        exact ⟨by rw [HC0.out]; rfl, HG0.out.trans HG2.out⟩
    · obtain ⟨m, hm⟩ : ∃ m, n = f + m := ⟨n - f, by omega⟩
      have hmz : ((n : Int) - (f : Int)) = (m : Int) := by omega
      subst hm
      have hmn : f + m - f = m := by omega
      go_wp2_with fail
      go_loopg [6, 8, 20] m (fun kx v6 _ v20 wr => ∃ (i : Nat) (bare : Int), v6 = .int .i64 bare ∧ v20 = .int .i64 (i : Int) ∧ i ≤ m ∧ m - i ≤ kx ∧ Hid (C = covF (k1, k2, k3) bare ((out.drop f).drop i)) ∧ Hid (Grows W0 wr))
      case atStart => exact ⟨0, k1, rfl, rfl, Nat.zero_le _, Nat.le_refl _, HCV, HG2⟩
      case round =>
        obtain ⟨i, bare, rfl, rfl, hi, hkx, HCi, HGi⟩ := hrel
        have c0 : wr.cell? ⟨w.heap.size, 0, none⟩ = some (.int .i64 k1) := ((Grows.below HGi.out).cell (by exact HBK.out.lt)).trans (HBK.out.cell 0 _ rfl)
        have c1 : wr.cell? ⟨w.heap.size, 1, none⟩ = some (.int .i64 k2) := ((Grows.below HGi.out).cell (by exact HBK.out.lt)).trans (HBK.out.cell 1 _ rfl)
        have c2 : wr.cell? ⟨w.heap.size, 2, none⟩ = some (.int .i64 k3) := ((Grows.below HGi.out).cell (by exact HBK.out.lt)).trans (HBK.out.cell 2 _ rfl)
        by_cases hlt : i < m
        · have hltz : (i : Int) < (m : Int) := by omega
          have hil : f + i < out.length := by have := HN.out; omega
          obtain ⟨b', hbe, hat5⟩ := HAt.out i hil
          cases hbe
          have hat6 := hat5.below (HG0.out.trans HGi.out).below
          rw [Nat.add_mul] at hat6
          have hdr : (out.drop f).drop i = out[f + i] :: (out.drop f).drop (i + 1) := by
            rw [List.drop_eq_getElem_cons (by rw [List.length_drop]; omega), List.getElem_drop]
          rw [hdr] at HCi
          obtain ⟨⟨⟨p1, p2, p3⟩, s1, s2⟩, hs⟩ : ∃ s, s = out[f + i] := ⟨_, rfl⟩
          rw [← hs] at hat6 HCi
          have d0 := hat6.c0
          have d1 := hat6.c1
          have d2 := hat6.c2
          have d3 := hat6.c3
          have d4 := hat6.c4
          simp only at d0 d1 d2 d3 d4
          have hsz8 : w.heap.size < wr.heap.size := by have := World.block_lt_of_cell? _ _ c0; exact this
          obtain ⟨W8, hW8⟩ : ∃ W8, W8 = wr.alloc (.cells #[.int .i64 p1, .int .i64 p2, .int .i64 p3, .int .i64 s1, .int .i64 s2] 57) := ⟨_, rfl⟩
          have HG8 : Hid (Grows W0 W8) := by apply hide; rw [hW8]; exact HGi.out.trans (Grows.alloc _ _)
          have HW8 := hide hW8
          clear hat6 hat5 hdr hs hil hW8
          by_cases h1 : k2 ≤ bare
          · have HCt : Hid (C = true) := by apply hide; rw [HCi.out]; simp [covF, h1]
            go_wp2_with fail
            go_ret
            exact ⟨by rw [HCt.out]; rfl, HG0.out.trans (by rw [← HW8.out]; exact HG8.out)⟩
          · by_cases h2 : bare < s1
            · have HCt : Hid (C = false) := by apply hide; rw [HCi.out]; simp [covF, h1, h2]
              go_wp2_with fail
              go_ret
              exact ⟨by rw [HCt.out]; rfl, HG0.out.trans (by rw [← HW8.out]; exact HG8.out)⟩
            · have kG := goes_any W8 (p1, p2, p3) (k1, k2, k3)
              have HCg : Hid (C = if gaB (p1, p2, p3) (k1, k2, k3) then covF (k1, k2, k3) s2 ((out.drop f).drop (i + 1)) else false) := by apply hide; rw [HCi.out]; simp [covF, h1, h2]
              obtain ⟨p, hp⟩ : ∃ p, p = gaB (p1, p2, p3) (k1, k2, k3) := ⟨_, rfl⟩
              rw [← hp] at kG HCg
              unfold kv at kG
              simp only at kG
              clear hp
              have e4 : W8.cell? ⟨wr.heap.size, 4, none⟩ = some (.int .i64 s2) := by rw [HW8.out]; exact (BxA.new wr _ _).cell 4 _ rfl
              cases p with
              | true =>
                have HCn : Hid (C = covF (k1, k2, k3) s2 ((out.drop f).drop (i + 1))) := by apply hide; rw [HCg.out]; rfl
                go_wp2_with fail
                rw [← HW8.out]
                refine kG.mono ?_
                rintro ev w9 ⟨rfl, g9⟩
                have e5 : w9.cell? ⟨wr.heap.size, 4, none⟩ = some (.int .i64 s2) := (g9.below.cell (World.block_lt_of_cell? _ _ e4)).trans e4
                have HG9 : Hid (Grows W0 w9) := HG8.out.trans g9
                clear g9 kG e4
                go_wp2_with fail
                go_roundg (m - (i + 1))
                case measure => omega
                case rel => exact ⟨i + 1, s2, rfl, by go_num, hlt, Nat.le_refl _, HCn, HG9⟩
              | false =>
                have HCn : Hid (C = false) := by apply hide; rw [HCg.out]; rfl
                go_wp2_with fail
                rw [← HW8.out]
                refine kG.mono ?_
                rintro ev w9 ⟨rfl, g9⟩
                have HG9 : Hid (Grows W0 w9) := HG8.out.trans g9
                clear g9 kG e4
                go_wp2_with fail
                go_ret
                exact ⟨by rw [HCn.out]; rfl, HG0.out.trans HG9.out⟩
        · have hltz : ¬ (i : Int) < (m : Int) := by omega
          have HC0 : Hid (C = decide (k2 ≤ bare)) := by
            apply hide
            rw [HCi.out, List.drop_of_length_le (by rw [List.length_drop]; have := HN.out; omega)]
            rfl
          go_wp2_with fail
          go_ret
          exact ⟨by rw [HC0.out]; rfl, HG0.out.trans HGi.out⟩
end Go.Proofs.Ytgbmigfamefenaa
