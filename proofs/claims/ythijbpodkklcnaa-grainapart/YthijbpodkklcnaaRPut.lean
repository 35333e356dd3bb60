/- The contract of the reference's put. -/
import Derived.Test.YthijbpodkklcnaaPMath
import Derived.Test.YthijbpodkklcnaaNums
import Derived.Deep.LoopGhost
namespace Go.Proofs.Ythijbpodkklcnaa
open Go.RowKit Go.Sort

theorem one_rdi (w : World) (x : Int) (B : Nat) (hB : B = w.heap.size) : RdsK 1 (w.alloc (.cells #[.int .i64 x] 2)) (.slice (some ⟨B, 0, none⟩) 1 1) 1 (iv [x]) := by
  subst hB
  refine ⟨some ⟨w.heap.size, 0, none⟩, 1, rfl, by simp [iv], Nat.le_refl _, by decide, (fun h => by cases h), ?_⟩
  rintro ad ⟨rfl⟩ j u hj
  rw [Addr.add_lit, Nat.zero_add]
  have hj4 : j < 1 := by
    have := (List.getElem?_eq_some_iff.1 hj).1
    simpa [iv] using this
  have : j = 0 := by omega
  subst this
  simpa [iv] using hj
theorem room8 {k n : Nat} (h : n ≤ 1000) (hk : k ≤ n) : ((0 + k) + (0 + k) / 4 + 192) * 8 ≤ 281474976710656 ∧ ((k + 1) + (k + 1) / 4 + 192) * 8 ≤ 281474976710656 ∧ ((k + 1 + (n - k)) + (k + 1 + (n - k)) / 4 + 192) * 8 ≤ 281474976710656 ∧ 0 + k ≤ maxLen ∧ k + 1 ≤ maxLen ∧ k + 1 + (n - k) ≤ maxLen := by
  unfold maxLen; omega
theorem iv_app (l m : List Int) : iv (l ++ m) = iv l ++ iv m := by simp [iv]
theorem rds_of_k {w : World} {v : Value} {n : Nat} {l : List Int} (h : RdsK 1 w v n (iv l)) (hn : n = l.length) : Rds w v (iv l) := by
  obtain ⟨ao, cap, rfl, h0, h1, h2, h3, h4⟩ := h
  subst hn
  exact ⟨ao, cap, by rw [iv_length], by rw [iv_length]; exact h1, h2, (fun h => by rw [iv_length]; exact h3 h), h4⟩
theorem Rds.pre {w : World} {b off n cap : Nat} {l : List Int} (h : Rds w (.slice (some ⟨b, off, none⟩) n cap) (iv l)) {k : Nat} (hk : k ≤ l.length) : RdsK 1 w (.slice (some ⟨b, off, none⟩) k cap) k (iv (l.take k)) := by
  obtain ⟨ao, cap', he, h1, h2, h3, h4⟩ := h
  simp only [Value.slice.injEq] at he
  obtain ⟨rfl, rfl, rfl⟩ := he
  rw [iv_length] at h1
  refine ⟨_, cap, rfl, by simp [iv, hk], by omega, h2, (fun h => by cases h), fun ad ha j u hj => h4 ad ha j u ?_⟩
  simp only [iv, List.map_take, List.getElem?_take] at hj
  split at hj
  · exact hj
  · cases hj
theorem Rds.post {w : World} {b off n cap : Nat} {l : List Int} (h : Rds w (.slice (some ⟨b, off, none⟩) n cap) (iv l)) {k : Nat} (hk : k ≤ l.length) : RdsK 1 w (.slice (some ⟨b, off + k, none⟩) (n - k) (cap - k)) (n - k) (iv (l.drop k)) := by
  obtain ⟨hn, h1, h2, h3⟩ := h.cells
  rw [iv_length] at *
  refine ⟨_, cap - k, rfl, by simp [iv]; omega, by omega, by omega, (fun h => by cases h), ?_⟩
  rintro ad ⟨rfl⟩ j u hj
  simp only [iv, List.map_drop, List.getElem?_drop] at hj
  have hl : k + j < l.length := by have := (List.getElem?_eq_some_iff.1 hj).1; simpa using this
  obtain ⟨b', off', e, hc⟩ := h3 (by omega)
  simp only [Option.some.injEq, Addr.mk.injEq, and_true] at e
  obtain ⟨rfl, rfl⟩ := e
  rw [Addr.add_lit, Nat.add_assoc]
  exact hc (k + j) u hj

set_option maxHeartbeats 4000000 in
theorem refput_any (w : World) (v : Value) (l : List Int) (x : Int) (h : Rds w v (iv l)) (hnil : l = [] → v = .slice none 0 0) (hbig : l.length ≤ 1000) :
    Calls Try.prog 30 #[v, .int .i64 x] w fun e w' => ∃ v', e = .returned v' ∧ Rds w' v' (iv (ins l x)) ∧ Below w.heap.size w w' := by
  obtain ⟨i0, hi, hz0, hz1, hz2⟩ := info_parts Try.info_i64
  obtain ⟨ao, n, cap, rfl⟩ := h.sl
  obtain ⟨hn, c1, c2, c3⟩ := h.cells
  rw [iv_length] at hn c1 c3
  rw [← hn] at c1 c3 hbig
  have HN : Hid (n = l.length) := hn
  have HNil : Hid _ := hnil
  have HH : Hid (Rds w (.slice ao n cap) (iv l)) := h
  have HC3 : Hid _ := c3
  unfold maxLen at c2
  clear hn h c3 hnil
  go_enter Try.func30, Try.ntmps30
  go_wp2_with fail
  go_loopg [5] n (fun kx vk wr => ∃ k : Nat, vk = .int .i64 k ∧ k ≤ n ∧ n - k ≤ kx ∧ Hid (∀ j (_ : j < k) (hl : j < l.length), l[j] < x) ∧ w = wr)
  case atStart => exact ⟨0, rfl, by omega, Nat.le_refl _, (fun j hj => by omega), rfl⟩
  case round =>
    obtain ⟨k, rfl, hkn, hkx, HJ, rfl⟩ := hrel
    by_cases hlt : k < n
    · have hltz : (k : Int) < (n : Int) := by omega
      have hkl : k < l.length := by have := HN.out; omega
      obtain ⟨b, off, rfl, hcl⟩ := HC3.out (by omega)
      have q0 := hcl k _ (iv_get l k hkl)
      have hgd : l.getD k 0 = l[k] := by simp [hkl]
      rw [hgd] at q0
      by_cases hy : l[k] < x
      · have HY : Hid _ := hy
        have HJ2 : Hid (∀ j (_ : j < k + 1) (hl : j < l.length), l[j] < x) := fun j hj hl => by
          rcases Nat.lt_or_ge j k with c | c
          · exact HJ.out j c hl
          · have : j = k := by omega
            subst this; exact hy
        generalize l[k] = y at *
        clear hcl hgd
        go_wp2_with fail
        go_roundg (n - (k + 1))
        case measure => omega
        case rel => exact ⟨k + 1, by go_num, by omega, Nat.le_refl _, HJ2.out, rfl⟩
      · have hI := ins_at l x k (by omega) HJ.out (fun _ => hy)
        rw [hgd] at hI
        by_cases he : l[k] = x
        · rw [if_pos ⟨hkl, he⟩] at hI
          have HI : Hid _ := hI
          have heb : (l[k] == x) = true := by simp [he]
          generalize l[k] = y at *
          clear hI hcl hgd
          go_wp2_with fail
          go_ret
          refine ⟨_, rfl, ?_, Below.refl _ _⟩
          rw [HI.out]
          exact HH.out
        · rw [if_neg (fun hh => he hh.2)] at hI
          have HI : Hid _ := hI
          have heb : (l[k] == x) = false := by simp [he]
          generalize l[k] = y at *
          clear hI hcl hgd he
          have hkc : k < cap := by omega
          have HP1 : Hid (RdsK 1 w (.slice (some ⟨b, off, none⟩) k cap) k (iv (l.take k))) := HH.out.pre (by have := HN.out; omega)
          have HP3 : Hid (RdsK 1 w (.slice (some ⟨b, off + k, none⟩) (n - k) (cap - k)) (n - k) (iv (l.drop k))) := HH.out.post (by have := HN.out; omega)
          obtain ⟨e1, e2, e3, e4⟩ := room8 hbig hkn
          have HO0 : Hid (w.ownsRow w.heap.size 2 1 (.slice none 0 0) 0 []) := World.ownsRow_nil _ _ _ _
          have hs0 : w.heap.size ≤ w.heap.size := Nat.le_refl _
          go_upto_region 8 with (first
            | (at_builtin; refine wpList_appK rfl _ _ 45 rfl w.heap.size 2 i0 (.int .i64 0) 1 8 Try.underlying45 hi hz0 hz1 hz2 rfl (by decide) _ _ _ rfl HO0.out _ _ _ rfl HP1.out (iv_one _) e4.1 e1 hs0 ?_; intro v1 w1 hown1 hgrow1 hnil1; clear hnil1))
          rw [List.nil_append, Nat.zero_add] at hown1
          have bb1 : Below w.heap.size w w1 := (Below.refl _ _).grown hgrow1 hs0 (fun j hj => (World.ownsRow.lt HO0.out j hj).1)
          obtain ⟨a1, n1, c1', hv1⟩ := own_sl hown1
          subst hv1
          have HR1 : Hid (RdsK 1 _ _ 1 (iv [x])) := one_rdi w1 x _ rfl
          have HO1 : Hid ((w1.alloc (.cells #[.int .i64 x] 2)).ownsRow w.heap.size 2 1 (.slice a1 n1 c1') k (iv (l.take k))) := own_below hown1 ((Below.refl _ _).alloc (Nat.le_refl _) _)
          have hs1 : w.heap.size ≤ (w1.alloc (.cells #[.int .i64 x] 2)).heap.size := by have := bb1.size; simp; omega
          have HB1 : Hid (Below w.heap.size w (w1.alloc (.cells #[.int .i64 x] 2))) := bb1.alloc bb1.size _
          clear hown1 hgrow1 bb1 HO0 HP1
          go_upto_region 9 with (first
            | (at_builtin; refine wpList_appK rfl _ _ 45 rfl w.heap.size 2 i0 (.int .i64 0) 1 8 Try.underlying45 hi hz0 hz1 hz2 rfl (by decide) _ _ _ rfl HO1.out _ _ _ rfl HR1.out (iv_one _) e4.2.1 e2 hs1 ?_; intro v2 w2 hown2 hgrow2 hnil2; clear hnil2))
          have bb2 : Below w.heap.size w w2 := HB1.out.grown hgrow2 hs1 (fun j hj => (World.ownsRow.lt HO1.out j hj).1)
          have hk2 := RdsK.below HP3.out bb2
          obtain ⟨a2, n2, c2', hv2⟩ := own_sl hown2
          subst hv2
          have HR2 : Hid _ := hk2
          have HO2 : Hid _ := hown2
          have HB2 : Hid _ := bb2
          have hs2 : w.heap.size ≤ w2.heap.size := bb2.size
          clear hk2 hown2 hgrow2 bb2 HR1 HO1 HB1 hs1 HP3
          go_wp2_with (first
            | (at_builtin; refine wpList_appK rfl _ _ 45 rfl w.heap.size 2 i0 (.int .i64 0) 1 8 Try.underlying45 hi hz0 hz1 hz2 rfl (by decide) _ _ _ rfl HO2.out _ _ _ rfl HR2.out (iv_one _) e4.2.2 e3 hs2 ?_; intro v3 w3 hown3 hgrow3 hnil3; clear hnil3))
          go_ret
          have bb3 : Below w.heap.size w w3 := HB2.out.grown hgrow3 hs2 (fun j hj => (World.ownsRow.lt HO2.out j hj).1)
          refine ⟨_, rfl, ?_, bb3⟩
          rw [HI.out]
          have := RdsK.of_own hown3
          rw [← iv_app, ← iv_app] at this
          exact rds_of_k this (by have := HN.out; simp; omega)
    · have hltz : ¬ (k : Int) < (n : Int) := by omega
      have hke : k = n := by omega
      have hI := ins_at l x k (by have := HN.out; omega) HJ.out (fun hh => by have := HN.out; omega)
      rw [if_neg (fun hh => by have := HN.out; omega)] at hI
      have HI : Hid _ := hI
      clear hI
      rcases Nat.eq_zero_or_pos n with hz | hz
      · have hl0 : l = [] := List.eq_nil_of_length_eq_zero (by have := HN.out; omega)
        have hv0 := HNil.out hl0
        simp only [Value.slice.injEq] at hv0
        obtain ⟨rfl, rfl, rfl⟩ := hv0
        subst hke
        have HL0 : Hid _ := hl0
        clear hl0
        have HP1 : Hid (RdsK 1 w (.slice none 0 0) 0 (iv (l.take 0))) := RdsK.nil 1 w
        have HP3 : Hid (RdsK 1 w (.slice none 0 0) 0 (iv (l.drop 0))) := by show RdsK _ _ _ _ _; rw [HL0.out]; exact RdsK.nil 1 w
        obtain ⟨e1, e2, e3, e4⟩ := room8 hbig hkn
        have HO0 : Hid (w.ownsRow w.heap.size 2 1 (.slice none 0 0) 0 []) := World.ownsRow_nil _ _ _ _
        have hs0 : w.heap.size ≤ w.heap.size := Nat.le_refl _
        go_upto_region 8 with (first
          | (at_builtin; refine wpList_appK rfl _ _ 45 rfl w.heap.size 2 i0 (.int .i64 0) 1 8 Try.underlying45 hi hz0 hz1 hz2 rfl (by decide) _ _ _ rfl HO0.out _ _ _ rfl HP1.out (iv_one _) e4.1 e1 hs0 ?_; intro v1 w1 hown1 hgrow1 hnil1; clear hnil1))
        rw [List.nil_append, Nat.zero_add] at hown1
        have bb1 : Below w.heap.size w w1 := (Below.refl _ _).grown hgrow1 hs0 (fun j hj => (World.ownsRow.lt HO0.out j hj).1)
        obtain ⟨a1, n1, c1', hv1⟩ := own_sl hown1
        subst hv1
        have HR1 : Hid (RdsK 1 _ _ 1 (iv [x])) := one_rdi w1 x _ rfl
        have HO1 : Hid ((w1.alloc (.cells #[.int .i64 x] 2)).ownsRow w.heap.size 2 1 (.slice a1 n1 c1') 0 (iv (l.take 0))) := own_below hown1 ((Below.refl _ _).alloc (Nat.le_refl _) _)
        have hs1 : w.heap.size ≤ (w1.alloc (.cells #[.int .i64 x] 2)).heap.size := by have := bb1.size; simp; omega
        have HB1 : Hid (Below w.heap.size w (w1.alloc (.cells #[.int .i64 x] 2))) := bb1.alloc bb1.size _
        clear hown1 hgrow1 bb1 HO0 HP1
        go_upto_region 9 with (first
          | (at_builtin; refine wpList_appK rfl _ _ 45 rfl w.heap.size 2 i0 (.int .i64 0) 1 8 Try.underlying45 hi hz0 hz1 hz2 rfl (by decide) _ _ _ rfl HO1.out _ _ _ rfl HR1.out (iv_one _) e4.2.1 e2 hs1 ?_; intro v2 w2 hown2 hgrow2 hnil2; clear hnil2))
        have bb2 : Below w.heap.size w w2 := HB1.out.grown hgrow2 hs1 (fun j hj => (World.ownsRow.lt HO1.out j hj).1)
        have hk2 := RdsK.below HP3.out bb2
        obtain ⟨a2, n2, c2', hv2⟩ := own_sl hown2
        subst hv2
        have HR2 : Hid _ := hk2
        have HO2 : Hid _ := hown2
        have HB2 : Hid _ := bb2
        have hs2 : w.heap.size ≤ w2.heap.size := bb2.size
        clear hk2 hown2 hgrow2 bb2 HR1 HO1 HB1 hs1 HP3
        go_wp2_with (first
          | (at_builtin; refine wpList_appK rfl _ _ 45 rfl w.heap.size 2 i0 (.int .i64 0) 1 8 Try.underlying45 hi hz0 hz1 hz2 rfl (by decide) _ _ _ rfl HO2.out _ _ _ rfl HR2.out (iv_one _) e4.2.2 e3 hs2 ?_; intro v3 w3 hown3 hgrow3 hnil3; clear hnil3))
        go_ret
        have bb3 : Below w.heap.size w w3 := HB2.out.grown hgrow3 hs2 (fun j hj => (World.ownsRow.lt HO2.out j hj).1)
        refine ⟨_, rfl, ?_, bb3⟩
        rw [HI.out]
        have := RdsK.of_own hown3
        rw [← iv_app, ← iv_app] at this
        exact rds_of_k this (by rw [HL0.out]; simp)
      · obtain ⟨b, off, rfl, -⟩ := HC3.out hz
        have HKE : Hid _ := hke
        by_cases hcc : k = cap
        · have hnk : n - k = 0 := by omega
          have HNK : Hid _ := hnk
          subst hcc
          clear hnk hke
          have HP1 : Hid (RdsK 1 w (.slice (some ⟨b, off, none⟩) k k) k (iv (l.take k))) := HH.out.pre (by have := HN.out; omega)
          have HP3 : Aside (∀ m c, m = 0 → c ≤ maxLen → RdsK 1 w (.slice (some ⟨b, off, none⟩) m c) m (iv (l.drop k))) := fun m c h1 h2 => by
            rw [h1, List.drop_eq_nil_of_le (by have := HN.out; have := HKE.out; omega)]
            exact ⟨_, c, rfl, rfl, Nat.zero_le _, h2, (fun h => by cases h), fun _ _ j u hj => by simp [iv] at hj⟩
          obtain ⟨e1, e2, e3, e4⟩ := room8 hbig hkn
          have HO0 : Hid (w.ownsRow w.heap.size 2 1 (.slice none 0 0) 0 []) := World.ownsRow_nil _ _ _ _
          have hs0 : w.heap.size ≤ w.heap.size := Nat.le_refl _
          go_upto_region 8 with (first
            | (at_builtin; refine wpList_appK rfl _ _ 45 rfl w.heap.size 2 i0 (.int .i64 0) 1 8 Try.underlying45 hi hz0 hz1 hz2 rfl (by decide) _ _ _ rfl HO0.out _ _ _ rfl HP1.out (iv_one _) e4.1 e1 hs0 ?_; intro v1 w1 hown1 hgrow1 hnil1; clear hnil1))
          rw [List.nil_append, Nat.zero_add] at hown1
          have bb1 : Below w.heap.size w w1 := (Below.refl _ _).grown hgrow1 hs0 (fun j hj => (World.ownsRow.lt HO0.out j hj).1)
          obtain ⟨a1, n1, c1', hv1⟩ := own_sl hown1
          subst hv1
          have HR1 : Hid (RdsK 1 _ _ 1 (iv [x])) := one_rdi w1 x _ rfl
          have HO1 : Hid ((w1.alloc (.cells #[.int .i64 x] 2)).ownsRow w.heap.size 2 1 (.slice a1 n1 c1') k (iv (l.take k))) := own_below hown1 ((Below.refl _ _).alloc (Nat.le_refl _) _)
          have hs1 : w.heap.size ≤ (w1.alloc (.cells #[.int .i64 x] 2)).heap.size := by have := bb1.size; simp; omega
          have HB1 : Hid (Below w.heap.size w (w1.alloc (.cells #[.int .i64 x] 2))) := bb1.alloc bb1.size _
          clear hown1 hgrow1 bb1 HO0 HP1
          go_upto_region 9 with (first
            | (at_builtin; refine wpList_appK rfl _ _ 45 rfl w.heap.size 2 i0 (.int .i64 0) 1 8 Try.underlying45 hi hz0 hz1 hz2 rfl (by decide) _ _ _ rfl HO1.out _ _ _ rfl HR1.out (iv_one _) e4.2.1 e2 hs1 ?_; intro v2 w2 hown2 hgrow2 hnil2; clear hnil2))
          have bb2 : Below w.heap.size w w2 := HB1.out.grown hgrow2 hs1 (fun j hj => (World.ownsRow.lt HO1.out j hj).1)
          have hk2 : ∀ m c, m = 0 → c ≤ maxLen → RdsK 1 w2 (.slice (some ⟨b, off, none⟩) m c) m (iv (l.drop k)) := fun m c h1 h2 => RdsK.below (HP3.out m c h1 h2) bb2
          obtain ⟨a2, n2, c2', hv2⟩ := own_sl hown2
          subst hv2
          have HR2 : Aside _ := hk2
          have HO2 : Hid _ := hown2
          have HB2 : Hid _ := bb2
          have hs2 : w.heap.size ≤ w2.heap.size := bb2.size
          clear hk2 hown2 hgrow2 bb2 HR1 HO1 HB1 hs1 HP3
          go_wp2_with (first
            | (at_builtin; refine wpList_appK rfl _ _ 45 rfl w.heap.size 2 i0 (.int .i64 0) 1 8 Try.underlying45 hi hz0 hz1 hz2 rfl (by decide) _ _ _ rfl HO2.out _ _ _ rfl (HR2.out 0 0 rfl (Nat.zero_le _)) (iv_one _) e4.2.1 e2 hs2 ?_; intro v3 w3 hown3 hgrow3 hnil3; clear hnil3))
          go_ret
          have bb3 : Below w.heap.size w w3 := HB2.out.grown hgrow3 hs2 (fun j hj => (World.ownsRow.lt HO2.out j hj).1)
          refine ⟨_, rfl, ?_, bb3⟩
          rw [HI.out]
          have := RdsK.of_own hown3
          rw [← iv_app, ← iv_app] at this
          exact rds_of_k this (by have := HN.out; have := HKE.out; simp; omega)
        · have hkc : k < cap := by omega
          clear hke
          have HP1 : Hid (RdsK 1 w (.slice (some ⟨b, off, none⟩) k cap) k (iv (l.take k))) := HH.out.pre (by have := HN.out; omega)
          have HP3 : Hid (RdsK 1 w (.slice (some ⟨b, off + k, none⟩) (n - k) (cap - k)) (n - k) (iv (l.drop k))) := HH.out.post (by have := HN.out; omega)
          obtain ⟨e1, e2, e3, e4⟩ := room8 hbig hkn
          have HO0 : Hid (w.ownsRow w.heap.size 2 1 (.slice none 0 0) 0 []) := World.ownsRow_nil _ _ _ _
          have hs0 : w.heap.size ≤ w.heap.size := Nat.le_refl _
          go_upto_region 8 with (first
            | (at_builtin; refine wpList_appK rfl _ _ 45 rfl w.heap.size 2 i0 (.int .i64 0) 1 8 Try.underlying45 hi hz0 hz1 hz2 rfl (by decide) _ _ _ rfl HO0.out _ _ _ rfl HP1.out (iv_one _) e4.1 e1 hs0 ?_; intro v1 w1 hown1 hgrow1 hnil1; clear hnil1))
          rw [List.nil_append, Nat.zero_add] at hown1
          have bb1 : Below w.heap.size w w1 := (Below.refl _ _).grown hgrow1 hs0 (fun j hj => (World.ownsRow.lt HO0.out j hj).1)
          obtain ⟨a1, n1, c1', hv1⟩ := own_sl hown1
          subst hv1
          have HR1 : Hid (RdsK 1 _ _ 1 (iv [x])) := one_rdi w1 x _ rfl
          have HO1 : Hid ((w1.alloc (.cells #[.int .i64 x] 2)).ownsRow w.heap.size 2 1 (.slice a1 n1 c1') k (iv (l.take k))) := own_below hown1 ((Below.refl _ _).alloc (Nat.le_refl _) _)
          have hs1 : w.heap.size ≤ (w1.alloc (.cells #[.int .i64 x] 2)).heap.size := by have := bb1.size; simp; omega
          have HB1 : Hid (Below w.heap.size w (w1.alloc (.cells #[.int .i64 x] 2))) := bb1.alloc bb1.size _
          clear hown1 hgrow1 bb1 HO0 HP1
          go_upto_region 9 with (first
            | (at_builtin; refine wpList_appK rfl _ _ 45 rfl w.heap.size 2 i0 (.int .i64 0) 1 8 Try.underlying45 hi hz0 hz1 hz2 rfl (by decide) _ _ _ rfl HO1.out _ _ _ rfl HR1.out (iv_one _) e4.2.1 e2 hs1 ?_; intro v2 w2 hown2 hgrow2 hnil2; clear hnil2))
          have bb2 : Below w.heap.size w w2 := HB1.out.grown hgrow2 hs1 (fun j hj => (World.ownsRow.lt HO1.out j hj).1)
          have hk2 := RdsK.below HP3.out bb2
          obtain ⟨a2, n2, c2', hv2⟩ := own_sl hown2
          subst hv2
          have HR2 : Hid _ := hk2
          have HO2 : Hid _ := hown2
          have HB2 : Hid _ := bb2
          have hs2 : w.heap.size ≤ w2.heap.size := bb2.size
          clear hk2 hown2 hgrow2 bb2 HR1 HO1 HB1 hs1 HP3
          go_wp2_with (first
            | (at_builtin; refine wpList_appK rfl _ _ 45 rfl w.heap.size 2 i0 (.int .i64 0) 1 8 Try.underlying45 hi hz0 hz1 hz2 rfl (by decide) _ _ _ rfl HO2.out _ _ _ rfl HR2.out (iv_one _) e4.2.2 e3 hs2 ?_; intro v3 w3 hown3 hgrow3 hnil3; clear hnil3))
          go_ret
          have bb3 : Below w.heap.size w w3 := HB2.out.grown hgrow3 hs2 (fun j hj => (World.ownsRow.lt HO2.out j hj).1)
          refine ⟨_, rfl, ?_, bb3⟩
          rw [HI.out]
          have := RdsK.of_own hown3
          rw [← iv_app, ← iv_app] at this
          exact rds_of_k this (by have := HN.out; simp; omega)
end Go.Proofs.Ythijbpodkklcnaa
