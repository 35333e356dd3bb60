/- Contract: Covered. -/
import Derived.Test.YtgbmigfamefenaaCov
namespace Go.Proofs.Ytgbmigfamefenaa
open Go.Shelf Go.RowKit Go.Maps Go.Sort
set_option linter.unusedVariables false

/-- A set that may be. -/
structure Okk (e : Es) : Prop where
  lo : 0 ≤ e.1.1
  ne : e.1.1 < e.1.2.1
  hi : e.1.2.1 ≤ 1099511627776
  b3 : B3 e.1
  co : 0 ≤ e.2.1
theorem owns_mono {w : World} {base base' e k n : Nat} {v : Value} {l : List Value} (h : w.ownsRow base e k v n l) (hb : base' ≤ base) : w.ownsRow base' e k v n l := by
  refine ⟨h.1, ?_⟩
  rcases h.2 with q | ⟨g, cap, cur, h1, h2, h3⟩
  · exact .inl q
  · exact .inr ⟨g, cap, cur, h1, Nat.le_trans hb h2, h3⟩
theorem mem_keysF (p : K3 → Bool) (s : List Es) (k : K3) : k ∈ keysF p s ↔ ∃ e ∈ s, p e.1 = true ∧ e.1 = k := by
  unfold keysF
  rw [(srtK_perm _).mem_iff, List.mem_map]
  constructor
  · rintro ⟨e, he, q⟩
    have := List.mem_filter.1 he
    exact ⟨e, this.1, this.2, q⟩
  · rintro ⟨e, he, q1, q2⟩
    exact ⟨e, List.mem_filter.2 ⟨he, q1⟩, q2⟩
theorem keysF_len (p : K3 → Bool) (s : List Es) : (keysF p s).length ≤ s.length := by
  unfold keysF
  rw [(srtK_perm _).length_eq, List.length_map]
  exact List.length_filter_le _ _
theorem Tl.nodup {w : World} {t : Nat} {F : Nat → Prop} {s : List Es} (h : Tl w t F s) : (s.map Prod.fst).Nodup := by
  obtain ⟨mo, Z, hz⟩ := h
  have h1 := keys_nodup hz
  rw [← hz.fs, List.map_map]
  exact h1
theorem cmg_of {s : List Es} (h : (s.map Prod.fst).Nodup) (ho : ∀ e ∈ s, Okk e) (p : K3 → Bool) : Cmg (keysF p s) 1099511627776 := by
  refine ⟨srtK_rise (h.sublist ((List.filter_sublist).map _)), fun k hk => ?_, fun k hk => ?_⟩
  · obtain ⟨e, he, _, rfl⟩ := (mem_keysF p s k).1 hk
    exact (ho e he).ne
  · obtain ⟨e, he, _, rfl⟩ := (mem_keysF p s k).1 hk
    exact (ho e he).hi
set_option maxRecDepth 100000 in
set_option maxHeartbeats 3200000 in
theorem cvd1_any (w : World) (B : Nat) (k : K3) (v : Value) (out : List S3) (hB : w.cell? ⟨B, 0, none⟩ = some v) (h : Sts w v out) (hr : out.Pairwise fun a b => a.2.2 ≤ b.2.2) (hlen : out.length ≤ 200000) :
    Calls Try.prog 39 #[.agg #[.int .i64 k.1, .int .i64 k.2.1, .int .i64 k.2.2], .pointer (some ⟨B, 0, none⟩)] w fun e w' => e = .returned (.bool (cov k out)) ∧ Grows w w' := by
  obtain ⟨W, hW⟩ : ∃ W, W = w.alloc (.cells #[.int .i64 k.1, .int .i64 k.2.1, .int .i64 k.2.2] 55) := ⟨_, rfl⟩
  have hG : Grows w W := by rw [hW]; exact Grows.alloc _ _
  have kC := covered_any W k v out (h.below hG.below) hr hlen
  have hB' : W.cell? ⟨B, 0, none⟩ = some v := (hG.below.cell (World.block_lt_of_cell? _ _ hB)).trans hB
  have hbk : BxA W w.heap.size 55 #[.int .i64 k.1, .int .i64 k.2.1, .int .i64 k.2.2] := by rw [hW]; exact BxA.new _ _ _
  have c0 : W.cell? ⟨w.heap.size, 0, none⟩ = some (.int .i64 k.1) := hbk.cell 0 _ rfl
  have c1 : W.cell? ⟨w.heap.size, 1, none⟩ = some (.int .i64 k.2.1) := hbk.cell 1 _ rfl
  have c2 : W.cell? ⟨w.heap.size, 2, none⟩ = some (.int .i64 k.2.2) := hbk.cell 2 _ rfl
  obtain ⟨C, hC⟩ : ∃ C, C = cov k out := ⟨_, rfl⟩
  obtain ⟨a, c, hv, _⟩ := h.ex
  rw [← hC] at kC ⊢
  unfold kv at kC
  obtain ⟨k1, k2, k3⟩ := k
  simp only at kC hW c0 c1 c2 ⊢
  have HG := hide hG
  have HW := hide hW
  clear hC hW hG h hr hbk
  subst hv
  go_enter Try.func39, Try.ntmps39
  go_upto_region 1 with fail
  rw [← HW.out]
  go_wp2_with fail
  refine kC.mono ?_
  rintro ev w2 ⟨rfl, g2⟩
  have HG2 := hide (HG.out.trans g2)
  clear g2 kC
  go_wp2_with fail
  go_ret
  exact ⟨rfl, HG2.out⟩
set_option maxRecDepth 100000 in
set_option maxHeartbeats 3200000 in
theorem cvd_any (w : World) (t : Nat) (F : Nat → Prop) (s : List Es) (h : Tl w t F s) (ho : ∀ e ∈ s, Okk e) (hfew : s.length ≤ 100000) (hseg : ∀ p, (segL s (keysF p s)).length ≤ 1000000) :
    Calls Try.prog 23 #[.pointer (some ⟨t, 0, none⟩)] w fun ev w' => ∃ v', ev = .returned v' ∧ ∃ out, Say (keysF (pC 0 1099511627776 s) s) out 1099511627776 ∧ w'.ownsRow w.heap.size 32 5 v' (segL s (keysF (fun k => cov k out) s)).length (sgcs (segL s (keysF (fun k => cov k out) s))) ∧ Below w.heap.size w w' := by
  have hnd := h.nodup
  have HO := hide ho
  have HT := hide h
  have HND := hide hnd
  have HSG := hide hseg
  clear h ho hnd hseg
  go_enter Try.func23, Try.ntmps23
  go_wp2_with fail
  refine (always_any w).mono ?_
  rintro ev w1 ⟨rfl, g1⟩
  have HB1 := hide g1.below
  have kC := complete_any w1 t F s 0 1099511627776 (HT.out.below HB1.out) hfew (fun e he => (HO.out e he).co)
  clear g1
  go_wp2_with fail
  refine kC.mono ?_
  rintro ev w2 ⟨v2, rfl, r2, b2⟩
  have HB2 := hide (HB1.out.trans (b2.mono HB1.out.size))
  obtain ⟨ks, hks⟩ : ∃ ks, ks = keysF (pC 0 1099511627776 s) s := ⟨_, rfl⟩
  have hkl : ks.length ≤ 100000 := by rw [hks]; exact Nat.le_trans (keysF_len _ _) hfew
  have hcm : Cmg ks 1099511627776 := by rw [hks]; exact cmg_of HND.out HO.out _
  rw [← hks] at r2
  have kS := stretches_any w2 v2 ks 1099511627776 r2 hcm hkl
  have HKS := hide hks
  clear hks r2 b2 kC hcm
  go_wp2_with fail
  refine kS.mono ?_
  rintro ev w3 ⟨v3, rfl, out, o3, say3, hol3, b3⟩
  have HB3 := hide (HB2.out.trans (b3.mono HB2.out.size))
  have HSay := hide say3
  have hol : out.length ≤ 200000 := by omega
  have HST := hide (Sts.of o3)
  obtain ⟨a3, c3, hv3, _⟩ := o3.at5
  clear kS o3 say3 b3
  obtain ⟨W4, hW4⟩ : ∃ W4, W4 = w3.alloc (.cells #[v3] 50) := ⟨_, rfl⟩
  have hG4 : Below w3.heap.size w3 W4 := by rw [hW4]; exact Grows.below (Grows.alloc _ _)
  have HB4 : Hid (Below w.heap.size w W4) := by apply hide; exact HB3.out.trans (hG4.mono HB3.out.size)
  have hbx : BxA W4 w3.heap.size 50 #[v3] := by rw [hW4]; exact BxA.new _ _ _
  have hst4 := HST.out.below hG4
  have kK := keys_v W4 t F s (.pointer (some ⟨w3.heap.size, 0, none⟩)) (fun k => cov k out) (HT.out.below HB4.out) hfew (fun w' hb' e he => cvd1_any w' w3.heap.size e.1 v3 out ((hb'.cell (by exact hbx.lt)).trans (hbx.cell 0 _ rfl)) (hst4.below hb') HSay.out.ends hol)
  have HW4 := hide hW4
  clear hG4 hbx hst4 hW4
  subst hv3
  go_wp2_with fail
  rw [← HW4.out]
  refine kK.mono ?_
  rintro ev w5 ⟨v5, rfl, r5, b5⟩
  have HB5 := hide (HB4.out.trans (b5.mono HB4.out.size))
  have kG := segments_any w5 t F s v5 (keysF (fun k => cov k out) s) (HT.out.below HB5.out) r5 (fun k hk => by obtain ⟨e, he, _, rfl⟩ := (mem_keysF _ s k).1 hk; exact (HO.out e he).b3) (HSG.out _)
  obtain ⟨sg, hsg⟩ : ∃ sg, sg = segL s (keysF (fun k => cov k out) s) := ⟨_, rfl⟩
  rw [← hsg] at kG
  have HSg := hide hsg
  clear kK r5 b5 hsg
  go_wp2_with fail
  refine kG.mono ?_
  rintro ev w6 ⟨v6, rfl, o6, b6⟩
  have H6 := hide (And.intro (owns_mono o6 HB5.out.size) (HB5.out.trans (b6.mono HB5.out.size)))
  clear kG o6 b6
  go_wp2_with fail
  go_ret
  refine ⟨_, rfl, out, ?_, ?_, H6.out.2⟩
  · rw [← HKS.out]; exact HSay.out
  · rw [← HSg.out]; exact H6.out.1
end Go.Proofs.Ytgbmigfamefenaa
