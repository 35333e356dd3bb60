/- Contract: made. -/
import Derived.Test.YtgbmigfamefenaaWhl
import Derived.Test.YtgbmigfamefenaaAdR
namespace Go.Proofs.Ytgbmigfamefenaa
open Go.Shelf Go.RowKit Go.Maps Go.Sort
set_option linter.unusedVariables false

/-- What a segment of the law's is. -/
structure Few (g : Sg) : Prop where
  f0 : 0 ≤ g.1.1
  f1 : g.1.1 < 12
  t0 : g.1.1 < g.1.2.1
  t1 : g.1.2.1 ≤ g.1.1 + 8
  v0 : 0 ≤ g.1.2.2
  v1 : g.1.2.2 < 4
  p0 : 0 ≤ g.2.1
  p1 : g.2.1 < 3
  co : g.2.2 = (g.1.2.2 + g.1.1) % 3
theorem sgF_few (g : Sg) : Few (sgF g) := by
  unfold sgF
  refine ⟨?_, ?_, ?_, ?_, ?_, ?_, ?_, ?_, ?_⟩ <;> simp only <;> omega
theorem Few.may {g : Sg} (h : Few g) : may g = true := by
  have := h.f0; have := h.f1; have := h.t0; have := h.t1; have := h.v0; have := h.v1; have := h.p0; have := h.p1; have := h.co
  refine may_iff.2 ⟨?_, ?_, ?_, ?_, ?_, ?_⟩ <;> omega
theorem Few.b3 {g : Sg} (h : Few g) : B3 g.1 := by
  have := h.f0; have := h.f1; have := h.t0; have := h.t1; have := h.v0; have := h.v1
  refine ⟨?_, ?_, ?_, ?_, ?_, ?_⟩ <;> omega
/-- A state and its segments: how many there are. -/
theorem wf_len {s : List Es} (h : Wf s) : s.length ≤ (sgs s).length := by
  unfold sgs
  have hn := h.ne
  clear h
  induction s with
  | nil => simp
  | cons e s ih =>
    rw [List.flatMap_cons, List.length_append, List.length_cons]
    have h1 := ih fun x hx => hn x (List.mem_cons_of_mem _ hx)
    have h2 := hn e (List.mem_cons_self ..)
    have h3 : (sgE e).length = e.2.2.length := by unfold sgE; rw [List.length_map]
    have h4 : 0 < e.2.2.length := List.length_pos_iff.2 h2
    omega
theorem wf_parts {s : List Es} : ∀ e ∈ s, e.2.2.length ≤ (sgs s).length := by
  unfold sgs
  induction s with
  | nil => intro e he; cases he
  | cons a s ih =>
    intro e he
    rw [List.flatMap_cons, List.length_append]
    have h3 : (sgE a).length = a.2.2.length := by unfold sgE; rw [List.length_map]
    rcases List.mem_cons.1 he with rfl | q
    · omega
    · have := ih e q; omega
/-- A law's timeline, with the row of its segments. -/
structure Md (w0 w : World) (t : Nat) (F : Nat → Prop) (s : List Es) (v : Value) (l : List Sg) : Prop where
  tl : Tl w t F s
  wf : Wf s
  own : w.ownsRow w0.heap.size 32 5 v l.length (sgcs l)
  pm : (sgs s).Perm l
  few : ∀ g ∈ l, Few g
  fn : ∀ i, F i → w0.heap.size ≤ i
  ap : ∀ r, v.ownBlock = some r → ¬ F r
  bel : Below w0.heap.size w0 w
theorem Md.below {w0 w w' : World} {t : Nat} {F : Nat → Prop} {s : List Es} {v : Value} {l : List Sg} (h : Md w0 w t F s v l) (hb : Below w.heap.size w w') : Md w0 w' t F s v l :=
  ⟨h.tl.below hb, h.wf, owns_below h.own hb, h.pm, h.few, h.fn, h.ap, h.bel.trans (hb.mono h.bel.size)⟩
theorem Md.len {w0 w : World} {t : Nat} {F : Nat → Prop} {s : List Es} {v : Value} {l : List Sg} (h : Md w0 w t F s v l) : s.length ≤ l.length ∧ ∀ e ∈ s, e.2.2.length ≤ l.length := by
  have h1 := h.pm.length_eq
  exact ⟨by have := wf_len h.wf; omega, fun e he => by have := wf_parts e he; omega⟩
/-- A call on the timeline. -/
theorem Md.step {w0 w w' : World} {t : Nat} {F F' : Nat → Prop} {s s' : List Es} {v : Value} {l : List Sg} (h : Md w0 w t F s v l) (k : Tw w w' t F s' F') : Tl w' t F' s' ∧ w'.ownsRow w0.heap.size 32 5 v l.length (sgcs l) ∧ (∀ i, F' i → w0.heap.size ≤ i) ∧ (∀ r, v.ownBlock = some r → ¬ F' r) ∧ Below w0.heap.size w0 w' := by
  refine ⟨k.tl, owns_block h.own fun r hr => k.fr.block r (own_lt h.own r hr).2 (h.ap r hr), fun i hi => ?_, fun r hr hf => ?_, ?_⟩
  · rcases k.dn i hi with q | q
    · exact h.fn i q
    · have := h.bel.size; omega
  · rcases k.dn r hf with q | q
    · exact h.ap r hr q
    · have := (own_lt h.own r hr).2; omega
  · exact h.bel.trans (k.fr.below h.bel.size h.fn)
/-- The row alone grows. -/
theorem Md.app {w0 w w' : World} {t : Nat} {F : Nat → Prop} {s : List Es} {v v' : Value} {l l' : List Sg} (h : Tl w t F s) (hwf : Wf s) (ho : w.ownsRow w0.heap.size 32 5 v l.length (sgcs l)) (hfn : ∀ i, F i → w0.heap.size ≤ i) (hap : ∀ r, v.ownBlock = some r → ¬ F r) (hbel : Below w0.heap.size w0 w)
    (g : Gr w w' v v') (ho' : w'.ownsRow w0.heap.size 32 5 v' l'.length (sgcs l')) (hpm : (sgs s).Perm l') (hfew : ∀ g ∈ l', Few g) : Md w0 w' t F s v' l' := by
  refine ⟨?_, hwf, ho', hpm, hfew, hfn, fun r hr hf => ?_, Below.gr hbel hbel.size g.g fun r hr => (own_lt ho r hr).1⟩
  · obtain ⟨mo, Z, hz⟩ := h
    exact ⟨mo, Z, hz.frame g.g.size fun i hi => g.g.block i (hz.lt i hi) fun q => hap i q.symm hi⟩
  · rcases g.nb r hr with q | q
    · exact hap r q hf
    · have := h.lt r hf; omega
structure MadP (w : World) (ev : Ending) (w' : World) : Prop where
  ex : ∃ (t : Nat) (F : Nat → Prop) (s : List Es) (vl : Value) (l : List Sg), ev = .returned (.tuple #[.pointer (some ⟨t, 0, none⟩), vl]) ∧ Md w w' t F s vl l ∧ l.length ≤ 40
theorem Sgr.at {w : World} {v : Value} {l : List Sg} (h : Sgr w v l) (i : Nat) (hi : i < l.length) : ∃ b o c, v = .slice (some ⟨b, o, none⟩) l.length c ∧ AtG w b (o + i * 5) l[i] := by
  obtain ⟨a, c, h1, h2, h3, h4⟩ := h.ex
  obtain ⟨b, o, e, hc⟩ := h4 (by omega)
  exact ⟨b, o, c, by rw [h1, e], hc i hi⟩
set_option maxRecDepth 100000 in
set_option maxHeartbeats 12800000 in
theorem made_any (w : World) (v : Value) (raw : List Sg) (most : Nat) (h : Sgr w v raw) (hB : ∀ g ∈ raw, B5 g) (hm : most ≤ 40) : Calls Try.prog 10 #[v, .int .i64 (most : Int)] w (MadP w) := by
  have mixed : Try.prog.follows .mixedOrders = true := by kernel_rfl
  obtain ⟨i0, hi0, hi1, hi2, hi3⟩ := info_parts Try.info_seg
  have kN := new_any w
  obtain ⟨va, vc, rfl, hv1, hv2, hv3⟩ := h.ex
  have HV : Hid (∀ w', Below w.heap.size w w' → ∀ i (hi : i < raw.length), ∃ b o, va = some ⟨b, o, none⟩ ∧ AtG w' b (o + i * 5) raw[i]) := by
    intro w' hb i hi
    obtain ⟨b, o, e, hc⟩ := hv3 (by omega)
    exact ⟨b, o, e, (hc i hi).up hb⟩
  have HB5 := hide hB
  obtain ⟨n, hn⟩ : ∃ n, n = raw.length := ⟨_, rfl⟩
  have HN := hide hn
  rw [← hn] at hv1
  rw [← hn]
  unfold maxLen at hv2
  clear h hB hv3 hn
  obtain ⟨t, ht⟩ : ∃ t, t = w.heap.size := ⟨_, rfl⟩
  rw [← ht] at kN
  have HTT := hide ht
  clear ht
  go_enter Try.func10, Try.ntmps10
  go_wp2_with fail
  refine kN.mono ?_
  rintro ev w1 ⟨rfl, tl1, b1⟩
  have HM1 : Hid (Md w w1 t (fun i => i = t) [] (.slice none 0 0) []) := by
    refine ⟨tl1, Wf.nil, ⟨rfl, .inl ⟨rfl, rfl⟩⟩, List.Perm.refl _, (fun g hg => by cases hg), fun i hi => ?_, (fun r hr => by cases hr), by rw [HTT.out] at b1; exact b1⟩
    have := HTT.out
    omega
  clear kN tl1 b1
  go_wp2_with fail
  go_loopg [7, 8, 9] most (fun kx v7 v8 _ wr => ∃ (i : Nat) (F : Nat → Prop) (s : List Es) (l : List Sg) (x7 : Value), x7 = v7 ∧ v8 = .int .i64 (i : Int) ∧ i ≤ most ∧ i ≤ n ∧ most - i ≤ kx ∧ l.length ≤ i ∧ Hid (Md w wr t F s x7 l))
  case atStart => exact ⟨0, _, _, _, _, rfl, rfl, Nat.zero_le _, Nat.zero_le _, Nat.le_refl _, Nat.le_refl _, HM1⟩
  case round =>
    obtain ⟨i, F, s, l, x7, rfl, rfl, him, hin, hkx, hll, HM⟩ := hrel
    have hmz : (most : Int) ≤ 40 := by omega
    by_cases hlt : i < n
    · have hltz : (i : Int) < (n : Int) := by omega
      by_cases hlm : i < most
      · have hlmz : (i : Int) < (most : Int) := by omega
        have hil : i < raw.length := by have := HN.out; omega
        obtain ⟨vb, vo, rfl, hat⟩ := HV.out wr HM.out.bel i hil
        have hb5 := HB5.out _ (List.getElem_mem hil)
        obtain ⟨r, hr⟩ : ∃ r, r = raw[i] := ⟨_, rfl⟩
        rw [← hr] at hat hb5
        have hfew := sgF_few r
        have kS := seg_any wr r hb5
        have d0 := hat.c0
        have d1 := hat.c1
        have d2 := hat.c2
        have d3 := hat.c3
        have d4 := hat.c4
        obtain ⟨g, hg⟩ : ∃ g, g = sgF r := ⟨_, rfl⟩
        rw [← hg] at kS hfew
        obtain ⟨⟨g1, g2, g3⟩, g4, g5⟩ := g
        obtain ⟨⟨r1, r2, r3⟩, r4, r5⟩ := r
        have HFW := hide hfew
        have HW1 : Hid (wrap64 ((i : Int) + 1) = (i : Int) + 1) := by apply hide; rw [← IntWalk.i64_left, IntKind.wrap_i64]; omega
        simp only at d0 d1 d2 d3 d4 kS
        clear hat hb5 hr hg hfew hil
        go_wp2_with fail
        refine kS.mono ?_
        rintro ev w2 ⟨rfl, gr2⟩
        obtain ⟨W9, hW9⟩ : ∃ W9, W9 = w2.alloc (.cells #[.int .i64 g1, .int .i64 g2, .int .i64 g3, .int .i64 g4, .int .i64 g5] 32) := ⟨_, rfl⟩
        have hbx : BxA W9 w2.heap.size 32 #[.int .i64 g1, .int .i64 g2, .int .i64 g3, .int .i64 g4, .int .i64 g5] := by rw [hW9]; exact BxA.new _ _ _
        have hm9 : Md w W9 t F s x7 l := HM.out.below (by rw [hW9]; exact (gr2.trans (Grows.alloc _ _)).below)
        have kA := add_any W9 t F s g1 g2 g3 g4 g5 hm9.tl hm9.wf HFW.out.b3 (by have := hm9.len.1; omega) (fun e he => by have := hm9.len.2 e he; omega)
        obtain ⟨ad, had⟩ : ∃ ad, ad = addF s ((g1, g2, g3), g4, g5) := ⟨_, rfl⟩
        rw [← had] at kA
        have HAD := hide had
        have HBX := hide hbx
        have HM9 := hide hm9
        have HW9 := hide hW9
        have HSZ : Hid (wr.heap.size ≤ w2.heap.size) := gr2.below.size
        have c0 := hbx.cell 0 _ rfl
        have c1 := hbx.cell 1 _ rfl
        have c2 := hbx.cell 2 _ rfl
        have c3 := hbx.cell 3 _ rfl
        have c4 := hbx.cell 4 _ rfl
        clear kS gr2 d0 d1 d2 d3 d4 had hbx hm9 hW9
        go_upto_region 7 with fail
        rw [← HW9.out]
        go_wp2_with fail
        refine kA.mono ?_
        rintro ev w3 ⟨rfl, F', htw⟩
        have HTW := hide htw
        obtain ⟨HT3, HO3, HF3, HA3, HB3⟩ := HM9.out.step htw
        have hst : Hid (Tl w3 t F' ad.2 ∧ w3.ownsRow w.heap.size 32 5 x7 l.length (sgcs l) ∧ (∀ i, F' i → w.heap.size ≤ i) ∧ (∀ r, x7.ownBlock = some r → ¬ F' r) ∧ Below w.heap.size w w3) := ⟨HT3, HO3, HF3, HA3, HB3⟩
        have hbx3 : Hid (BxA w3 w2.heap.size 32 #[.int .i64 g1, .int .i64 g2, .int .i64 g3, .int .i64 g4, .int .i64 g5]) := by
          apply hide
          refine HBX.out.fr htw.fr fun hf => ?_
          have h1 := HM.out.tl.lt _ hf
          have h2 := (HBX.out).lt
          have h3 := HSZ.out
          omega
        have hwf := add_wf HM9.out.wf ((g1, g2, g3), g4, g5) HFW.out.b3
        rw [← HAD.out] at hwf
        have HWF := hide hwf
        clear kA htw hwf HT3 HO3 HF3 HA3 HB3 c0 c1 c2 c3 c4
        obtain ⟨a1, a2⟩ := ad
        by_cases hz : a1 = 0
        · have hz1 : (a1 == 0) = true := by simpa using hz
          have c0 := hbx3.out.cell 0 _ rfl
          have c1 := hbx3.out.cell 1 _ rfl
          have c2 := hbx3.out.cell 2 _ rfl
          have c3 := hbx3.out.cell 3 _ rfl
          have c4 := hbx3.out.cell 4 _ rfl
          have HZ := hide hz
          obtain ⟨w4, hw4⟩ : ∃ w4, w4 = w3.alloc (.cells #[.int .i64 g1, .int .i64 g2, .int .i64 g3, .int .i64 g4, .int .i64 g5] 32) := ⟨_, rfl⟩
          have HLO : Hid (RdsK 5 w4 (.slice (some ⟨w3.heap.size, 0, none⟩) 1 1) 1 [.int .i64 g1, .int .i64 g2, .int .i64 g3, .int .i64 g4, .int .i64 g5]) := by apply hide; rw [hw4]; exact RdsK.of_own (lit_ownK w3 [.int .i64 g1, .int .i64 g2, .int .i64 g3, .int .i64 g4, .int .i64 g5] 32 1 5 rfl (by simp [maxLen]))
          have HAO : Hid (w4.ownsRow w.heap.size 32 5 x7 l.length (sgcs l)) := by apply hide; rw [hw4]; exact World.ownsRow.alloc hst.out.2.1 _
          have HW4 := hide hw4
          have hsz4 : w.heap.size ≤ w4.heap.size := by rw [hw4]; have := hst.out.2.2.2.2.size; simp; omega
          clear hz hw4
          go_wp2_with (first | (at_builtin; rw [← HW4.out]; refine wpList_appF rfl _ _ 22 rfl w.heap.size 32 i0 (.agg #[.int .i64 0, .int .i64 0, .int .i64 0, .int .i64 0, .int .i64 0]) 5 40 Try.underlying22 hi0 hi1 hi2 hi3 rfl (by decide) x7 l.length (sgcs l) rfl HAO.out (.slice (some ⟨w3.heap.size, 0, none⟩) 1 1) 1 [.int .i64 g1, .int .i64 g2, .int .i64 g3, .int .i64 g4, .int .i64 g5] rfl HLO.out (fun u hu => by simp at hu; rcases hu with rfl | rfl | rfl | rfl | rfl <;> rfl) (by unfold maxLen; omega) (by omega) hsz4 ?_; intro v6 w6 o6 g6 hx6; have H6 : Hid (w6.ownsRow w.heap.size 32 5 v6 (l.length + 1) (sgcs l ++ [.int .i64 g1, .int .i64 g2, .int .i64 g3, .int .i64 g4, .int .i64 g5]) ∧ w4.grownBy w6 x7.ownBlock) := ⟨o6, g6⟩; have HX6 : Hid _ := hx6; clear o6 g6 hx6))
          obtain ⟨o6, g6⟩ := H6.out
          have gA : w3.grownBy w6 x7.ownBlock := grown_trans (by rw [HW4.out]; exact grown_alloc _ _ _) g6
          have s4 : w3.heap.size ≤ w4.heap.size := by rw [HW4.out]; simp
          obtain ⟨s1, s2, s3, s5, s6⟩ := hst.out
          obtain ⟨q1, q2, q3⟩ := HWF.out
          have hpm := (q2 HZ.out).1
          go_roundg (most - (i + 1))
          case measure => omega
          case rel =>
            refine ⟨i + 1, F', a2, l ++ [((g1, g2, g3), g4, g5)], v6, rfl, by first | (rw [HW1.out]; rfl) | rfl, hlm, hlt, Nat.le_refl _, by simp; omega, ?_⟩
            apply hide
            refine Md.app s1 q1 s2 s3 s5 s6 (Gr.of gA ?_) ?_ ?_ ?_
            · rcases HX6.out with q | ⟨g, q, hg⟩
              · exact .inl q
              · exact .inr ⟨g, q, by omega⟩
            · rw [sgcs_append, List.length_append]
              exact o6
            · refine hpm.trans ((List.Perm.cons _ HM9.out.pm).trans ?_)
              exact (List.perm_append_comm (l₁ := [((g1, g2, g3), g4, g5)]) (l₂ := l))
            · intro x hx
              rcases List.mem_append.1 hx with q | q
              · exact HM9.out.few x q
              · rw [List.mem_singleton.1 q]; exact HFW.out
        · have hz1 : (a1 == 0) = false := by simpa using hz
          have HZ := hide hz
          clear hz
          go_wp2_with fail
          obtain ⟨s1, s2, s3, s5, s6⟩ := hst.out
          obtain ⟨q1, q2, q3⟩ := HWF.out
          have hsame := q3 HZ.out
          go_roundg (most - (i + 1))
          case measure => omega
          case rel =>
            refine ⟨i + 1, F', a2, l, x7, rfl, by first | (rw [HW1.out]; rfl) | rfl, hlm, hlt, Nat.le_refl _, by omega, ?_⟩
            apply hide
            refine ⟨s1, q1, s2, ?_, HM9.out.few, s3, s5, s6⟩
            rw [hsame]
            exact HM9.out.pm
      · have hlmz : ¬ (i : Int) < (most : Int) := by omega
        go_wp2_with fail
        go_returns
        exact ⟨t, F, s, x7, l, rfl, HM.out, by omega⟩
    · have hltz : ¬ (i : Int) < (n : Int) := by omega
      go_wp2_with fail
      go_returns
      exact ⟨t, F, s, x7, l, rfl, HM.out, by omega⟩
end Go.Proofs.Ytgbmigfamefenaa
