/- LineTurned, the walk. -/
import Derived.Test.YtgbmigfamefenaaPuT
import Derived.Test.YtgbmigfamefenaaCvw
namespace Go.Proofs.Ytgbmigfamefenaa
open Go.Shelf Go.RowKit Go.Maps Go.Sort
set_option linter.unusedVariables false

/-- A timeline that is built, and a row beside it. -/
structure Mx (w0 w : World) (t : Nat) (F : Nat → Prop) (s : List Es) (v : Value) (ex L : List Sg) : Prop where
  tl : Tl w t F s
  tr : TrS L s
  own : w.ownsRow w0.heap.size 32 5 v ex.length (sgcs ex)
  fn : ∀ i, F i → w0.heap.size ≤ i
  ap : ∀ r, v.ownBlock = some r → ¬ F r
  bel : Below w0.heap.size w0 w
theorem Mx.up {w0 w w' : World} {t : Nat} {F : Nat → Prop} {s : List Es} {v : Value} {ex L : List Sg} (h : Mx w0 w t F s v ex L) (hb : Below w.heap.size w w') : Mx w0 w' t F s v ex L :=
  ⟨h.tl.below hb, h.tr, owns_below h.own hb, h.fn, h.ap, h.bel.trans (hb.mono h.bel.size)⟩
theorem Mx.step {w0 w w' : World} {t : Nat} {F F' : Nat → Prop} {s s' : List Es} {v : Value} {ex L L' : List Sg} (h : Mx w0 w t F s v ex L) (k : Tw w w' t F s' F') (hr : TrS L' s') : Mx w0 w' t F' s' v ex L' := by
  refine ⟨k.tl, hr, owns_block h.own fun r hr => k.fr.block r (own_lt h.own r hr).2 (h.ap r hr), fun i hi => ?_, fun r hr hf => ?_, ?_⟩
  · rcases k.dn i hi with q | q
    · exact h.fn i q
    · have := h.bel.size; omega
  · rcases k.dn r hf with q | q
    · exact h.ap r hr q
    · have := (own_lt h.own r hr).2; omega
  · exact h.bel.trans (k.fr.below h.bel.size h.fn)
theorem Mx.app {w0 w w' : World} {t : Nat} {F : Nat → Prop} {s : List Es} {v v' : Value} {ex ex' L : List Sg} (h : Mx w0 w t F s v ex L) (g : Gr w w' v v') (ho : w'.ownsRow w0.heap.size 32 5 v' ex'.length (sgcs ex')) : Mx w0 w' t F s v' ex' L := by
  refine ⟨?_, h.tr, ho, h.fn, fun r hr hf => ?_, Below.gr h.bel h.bel.size g.g fun r hr => (own_lt h.own r hr).1⟩
  · obtain ⟨mo, Z, hz⟩ := h.tl
    exact ⟨mo, Z, hz.frame g.g.size fun i hi => g.g.block i (hz.lt i hi) fun q => h.ap i q.symm hi⟩
  · rcases g.nb r hr with q | q
    · exact h.ap r q hf
    · have := h.tl.lt r hf; omega
theorem Mx.few {w0 w : World} {t : Nat} {F : Nat → Prop} {s : List Es} {v : Value} {ex L : List Sg} (h : Mx w0 w t F s v ex L) : s.length ≤ L.length ∧ ∀ e ∈ s, e.2.2.length ≤ L.length := by
  have h1 := h.tr.pm.length_eq
  exact ⟨by have := wf_len h.tr.wf; omega, fun e he => by have := wf_parts (s := s) e he; omega⟩
/-- Which segment comes next. -/
structure Ix (n k q A j : Nat) : Prop where
  qn : q < n
  jn : j < n
  je : j = (n - 1 - k + q) % n
  m1 : Int.tmod (A : Int) (n : Int) = (q : Int)
  m2 : Int.tmod ((n : Int) - 1 - (k : Int) + (q : Int)) (n : Int) = (j : Int)
  u1 : IntKind.i64.wrap ((n : Int) - 1) = (n : Int) - 1
  u2 : IntKind.i64.wrap ((n : Int) - 1 - (k : Int)) = (n : Int) - 1 - (k : Int)
  u3 : IntKind.i64.wrap (q : Int) = (q : Int)
  u4 : IntKind.i64.wrap ((n : Int) - 1 - (k : Int) + (q : Int)) = (n : Int) - 1 - (k : Int) + (q : Int)
  u5 : IntKind.i64.wrap (j : Int) = (j : Int)
theorem Ix.ex {n k q A : Nat} (hk : k < n) (hn : n ≤ 1000) (hq : q = A % n) : ∃ j, Ix n k q A j := by
  have hqn : q < n := by rw [hq]; exact Nat.mod_lt _ (by omega)
  obtain ⟨j, hj⟩ : ∃ j, j = (n - 1 - k + q) % n := ⟨_, rfl⟩
  have hjn : j < n := by rw [hj]; exact Nat.mod_lt _ (by omega)
  refine ⟨j, hqn, hjn, hj, ?_, ?_, ?_, ?_, ?_, ?_, ?_⟩
  · rw [hq]; exact (Int.ofNat_tmod _ _).symm
  · have e : (n : Int) - 1 - (k : Int) + (q : Int) = ((n - 1 - k + q : Nat) : Int) := by clear hj hq; omega
    rw [e, hj]; exact (Int.ofNat_tmod _ _).symm
  all_goals (rw [IntKind.wrap_i64]; clear hj hq; omega)
theorem trn_get' {l : List Sg} {n k q j : Nat} (hl : n = l.length) (hq : q < n) (hk : k < n) (hj : j = (n - 1 - k + q) % n) (hjl : j < l.length) (hkt : k < (trn l q).length) : (trn l q)[k] = l[j] := by
  subst hl
  subst hj
  exact trn_get hq hk
structure LkS (s : List Es) (p : List Pc) : Prop where
  ex : ∃ out, Say (keysF (pC 0 1099511627776 s) s) out 1099511627776 ∧ p = lkF s (cutS 0 1099511627776 out)
theorem TrS.len {l : List Sg} {s : List Es} (h : TrS l s) (hl : l.length ≤ 40) : s.length ≤ 40 ∧ ∀ e ∈ s, e.2.2.length ≤ 40 := by
  have h1 := h.pm.length_eq
  exact ⟨by have := wf_len h.wf; omega, fun e he => by have := wf_parts (s := s) e he; omega⟩
def inB (g x : Sg) : Bool := decide (x.1 = g.1) && decide (x.2.1 = g.2.1)
set_option maxRecDepth 100000 in
set_option maxHeartbeats 51200000 in
theorem trn_walk (w : World) (v : Value) (raw : List Sg) (h : Sgr w v raw) (hB : ∀ g ∈ raw, B5 g) (hb : raw.length * 40 ≤ 140737488351232) (v2 : Value) (raw2 : List Sg) (h2 : Sgr w v2 raw2) (hB2 : ∀ g ∈ raw2, B5 g) (hb2 : raw2.length * 40 ≤ 140737488351232) (t0 : Int) (ht0 : In64 t0) :
    Calls Try.prog 6 #[v, v2, .int .i64 t0] w fun e w' => e = .returned (.bool true) ∧ Below w.heap.size w w' := by
  have mixed : Try.prog.follows .mixedOrders = true := by kernel_rfl
  obtain ⟨i0, hi0, hi1, hi2, hi3⟩ := info_parts Try.info_seg
  have kW := awake_any w
  have HR := hide h
  have HR2 := hide h2
  have HB5 := hide hB
  have HB52 := hide hB2
  have kAb := fun w' => abs_any w' t0 ht0.1 ht0.2
  have hab := absN_lt ht0.1 ht0.2
  obtain ⟨A, hA⟩ : ∃ A, A = absN t0 := ⟨_, rfl⟩
  rw [← hA] at kAb hab
  have HKA := hide kAb
  obtain ⟨ra, rc, hrv, hr1, hr2, hr3⟩ := h2.ex
  have HV2 : Hid (∀ w', Below w.heap.size w w' → ∀ i (hi : i < raw2.length), ∃ b o, ra = some ⟨b, o, none⟩ ∧ AtG w' b (o + i * 5) raw2[i]) := by
    intro w' hb i hi
    obtain ⟨b, o, e, hc⟩ := hr3 (by omega)
    exact ⟨b, o, e, (hc i hi).up hb⟩
  obtain ⟨n2, hn2⟩ : ∃ n, n = raw2.length := ⟨_, rfl⟩
  have HN2 := hide hn2
  rw [← hn2] at hrv hr1
  unfold maxLen at hr2
  clear h hB hb h2 hB2 hb2 ht0 hA kAb hr3 hn2
  subst hrv
  go_enter Try.func6, Try.ntmps6
  go_wp2_with fail
  refine kW.mono ?_
  rintro ev w1 ⟨rfl, b1⟩
  have HB1 := hide b1
  have kM := made_any w1 v raw 30 (HR.out.up b1) HB5.out (by decide)
  clear kW b1
  go_wp2_with fail
  refine kM.mono ?_
  rintro ev w2 ⟨ta, Fa, sa, vl, l, rfl, hmd, hll⟩
  have HMD := hide hmd
  have HB2 : Hid (Below w.heap.size w w2) := HB1.out.trans (hmd.bel.mono HB1.out.size)
  obtain ⟨la, lc, hvl, hl1, hl2, hl3⟩ := (Sgr.of hmd.own).ex
  have HL3 : Hid (∀ w', Below w2.heap.size w2 w' → ∀ i (hi : i < l.length), ∃ b o, la = some ⟨b, o, none⟩ ∧ AtG w' b (o + i * 5) l[i]) := by
    intro w' hb i hi
    obtain ⟨b, o, e, hc⟩ := hl3 (by omega)
    exact ⟨b, o, e, (hc i hi).up hb⟩
  have HTA : Hid (∀ w', Below w2.heap.size w2 w' → Tl w' ta Fa sa) := fun w' hb => hmd.tl.below hb
  have HTR : Hid (TrS l sa) := ⟨hmd.wf, hmd.pm, hmd.few⟩
  obtain ⟨n, hn⟩ : ∃ n, n = l.length := ⟨_, rfl⟩
  rw [← hn] at hvl hl1 hll
  have HN := hide hn
  unfold maxLen at hl2
  have kN := new_any w2
  obtain ⟨tb, htb⟩ : ∃ t, t = w2.heap.size := ⟨_, rfl⟩
  rw [← htb] at kN
  have HTB := hide htb
  clear kM hmd hl3 hn htb
  subst hvl
  go_wp2_with fail
  refine kN.mono ?_
  rintro ev w3 ⟨rfl, tl3, b3⟩
  have HM3 : Hid (Mx w2 w3 tb (fun i => i = tb) [] (.slice none 0 0) [] []) := by
    refine ⟨tl3, ⟨Wf.nil, List.Perm.refl _, (fun g hg => by cases hg)⟩, ⟨rfl, .inl ⟨rfl, rfl⟩⟩, fun i hi => ?_, (fun r hr => by cases hr), by rw [HTB.out] at b3; exact b3⟩
    have := HTB.out
    omega
  clear kN tl3 b3
  go_wp2_with fail
  go_loopg [11, 12, 13, 14, 15] 20 (fun kx v11 v12 _ _ _ wr => ∃ (i : Nat) (F : Nat → Prop) (s : List Es) (ex : List Sg) (x11 : Value), x11 = v11 ∧ v12 = .int .i64 (i : Int) ∧ i ≤ 20 ∧ i ≤ n2 ∧ 20 - i ≤ kx ∧ ex.length ≤ i ∧ Hid (Mx w2 wr tb F s x11 ex ex) ∧ Hid (∀ g ∈ ex, ∀ x ∈ l, ¬ (x.1 = g.1 ∧ x.2.1 = g.2.1)))
  case atStart => exact ⟨0, _, _, _, _, rfl, rfl, Nat.zero_le _, Nat.zero_le _, Nat.le_refl _, Nat.le_refl _, HM3, fun g hg => by cases hg⟩
  case round =>
    obtain ⟨i, F, s, ex, x11, rfl, rfl, hi20, hin2, hkx, hexl, HM, HEX⟩ := hrel
    by_cases hgo : i < n2 ∧ i < 20
    · obtain ⟨hg1, hg2⟩ := hgo
      have hg1z : (i : Int) < (n2 : Int) := by omega
      have hg2z : (i : Int) < 20 := by omega
      have hil : i < raw2.length := by have := HN2.out; omega
      obtain ⟨vb, vo, rfl, hat⟩ := HV2.out wr (HB2.out.trans (HM.out.bel.mono HB2.out.size)) i hil
      have hb5 := HB52.out _ (List.getElem_mem hil)
      obtain ⟨r, hr⟩ : ∃ r, r = raw2[i] := ⟨_, rfl⟩
      rw [← hr] at hat hb5
      have hfew := sgF_few r
      have kS := seg_any wr r hb5
      have d0 := hat.c0
      have d1 := hat.c1
      have d2 := hat.c2
      have d3 := hat.c3
      have d4 := hat.c4
      obtain ⟨g, hg⟩ : ∃ g, g = sgF r := ⟨_, rfl⟩
      rw [← hg] at kS hfew
      obtain ⟨⟨g1, g2, g3⟩, g4, g5⟩ := g
      obtain ⟨⟨r1, r2, r3⟩, r4, r5⟩ := r
      have HFW := hide hfew
      have HW1 : Hid (wrap64 ((i : Int) + 1) = (i : Int) + 1) := by apply hide; rw [← IntWalk.i64_left, IntKind.wrap_i64]; omega
      simp only at d0 d1 d2 d3 d4 kS
      clear hat hb5 hr hg hfew hil
      go_wp2_with fail
      refine kS.mono ?_
      rintro ev w4 ⟨rfl, gr4⟩
      obtain ⟨W9, hW9⟩ : ∃ W9, W9 = w4.alloc (.cells #[.int .i64 g1, .int .i64 g2, .int .i64 g3, .int .i64 g4, .int .i64 g5] 32) := ⟨_, rfl⟩
      obtain ⟨b9, hb9⟩ : ∃ b, b = w4.heap.size := ⟨_, rfl⟩
      have HBX : Hid (BxA W9 b9 32 #[.int .i64 g1, .int .i64 g2, .int .i64 g3, .int .i64 g4, .int .i64 g5]) := by apply hide; rw [hW9, hb9]; exact BxA.new _ _ _
      have HM9 : Hid (Mx w2 W9 tb F s x11 ex ex) := HM.out.up (by rw [hW9]; exact (gr4.trans (Grows.alloc _ _)).below)
      have HNF : Hid (¬ F b9) := fun q => by
        have h1 := HM.out.tl.lt _ q
        have h2 := gr4.below.size
        omega
      have HW9 := hide hW9
      have HB9 := hide hb9
      clear kS gr4 d0 d1 d2 d3 d4 hW9 hb9
      go_upto_region 12 with fail
      rw [← HW9.out, ← HB9.out]
      go_wp2_with fail
      go_loopg [14, 15] n (fun kx2 v14 v15 wq => ∃ (k : Nat), v15 = .int .i64 (k : Int) ∧ k ≤ n ∧ n - k ≤ kx2 ∧ v14 = .bool ((l.take k).any (inB ((g1, g2, g3), g4, g5))) ∧ Hid (Grows W9 wq))
      case atStart => exact ⟨0, rfl, Nat.zero_le _, Nat.le_refl _, rfl, Grows.refl _⟩
      case round =>
        rename World => wq
        obtain ⟨k, rfl, hk, hkx2, rfl, HG⟩ := hrel
        have HMq : Hid (Mx w2 wq tb F s x11 ex ex) := HM9.out.up HG.out.below
        have HBXq : Hid (BxA wq b9 32 #[.int .i64 g1, .int .i64 g2, .int .i64 g3, .int .i64 g4, .int .i64 g5]) := HBX.out.up HG.out.below
        by_cases hkl : k < n
        · have hkz : (k : Int) < (n : Int) := by omega
          have hkp : k < l.length := by have := HN.out; omega
          obtain ⟨lb, lo, rfl, ha⟩ := HL3.out wq HMq.out.bel k hkp
          have htk := any_take (P := inB ((g1, g2, g3), g4, g5)) hkp
          obtain ⟨a, hae⟩ : ∃ a, a = l[k] := ⟨_, rfl⟩
          rw [← hae] at ha htk
          obtain ⟨b0, hb0⟩ : ∃ b, b = (l.take k).any (inB ((g1, g2, g3), g4, g5)) := ⟨_, rfl⟩
          rw [← hb0] at htk ⊢
          have kO : ∀ nq os, _ := fun nq os => grown_at (w := wq) (fun w' => one_any w' a (((g1, g2, g3), g4, g5) : Sg)) nq os
          obtain ⟨q, hq⟩ : ∃ q, q = decide (a.1 = (g1, g2, g3)) := ⟨_, rfl⟩
          simp only [← hq] at kO
          unfold inB at htk
          simp only [← hq] at htk
          obtain ⟨⟨a1, a2, a3⟩, a4, a5⟩ := a
          have z0 := fun nq os => gro_cell ha.c0 nq os
          have z1 := fun nq os => gro_cell ha.c1 nq os
          have z2 := fun nq os => gro_cell ha.c2 nq os
          have z3 := fun nq os => gro_cell ha.c3 nq os
          have z4 := fun nq os => gro_cell ha.c4 nq os
          have y0 := fun nq os => gro_cell (HBXq.out.cell 0 _ rfl) nq os
          have y1 := fun nq os => gro_cell (HBXq.out.cell 1 _ rfl) nq os
          have y2 := fun nq os => gro_cell (HBXq.out.cell 2 _ rfl) nq os
          have y3 := fun nq os => gro_cell (HBXq.out.cell 3 _ rfl) nq os
          have y4 := fun nq os => gro_cell (HBXq.out.cell 4 _ rfl) nq os
          simp only at z0 z1 z2 z3 z4 kO htk
          have HTK := hide htk
          have HW2 : Hid (wrap64 ((k : Int) + 1) = (k : Int) + 1) := by apply hide; rw [← IntWalk.i64_left, IntKind.wrap_i64]; omega
          have hsplit : b0 = true ∨ (b0 = false ∧ (q = false ∨ (q = true ∧ (¬ a4 = g4 ∨ a4 = g4)))) := by
            cases b0
            · right
              refine ⟨rfl, ?_⟩
              cases q
              · exact .inl rfl
              · exact .inr ⟨rfl, by omega⟩
            · left; rfl
          clear ha hae hb0 hq htk
          go_upto_region 15 with fail
          rcases hsplit with rfl | ⟨rfl, rfl | ⟨rfl, h1 | h1⟩⟩
          · refine wp_region_quiet_grown (by assumption) (by kernel_rfl) ?_
            repeat (go_big_quiet_step (first | (go_at_call 14; with_reducible refine Calls.grown_of (kO _ _))))
            refine wpQuiet_nil ?_
            intro V hw'
            obtain ⟨⟨nq, osq⟩, hw''⟩ := hw'
            have HGV : Hid (Grows W9 V) := by apply hide; rw [hw'']; exact HG.out.trans ⟨nq, osq, rfl⟩
            clear hw'' kO z0 z1 z2 z3 z4 y0 y1 y2 y3 y4
            go_wp2_with fail
            go_roundg (n - (k + 1))
            case measure => omega
            case rel => exact ⟨k + 1, by first | (rw [HW2.out]; rfl) | rfl, hkl, Nat.le_refl _, by unfold inB; rw [HTK.out]; simp, HGV⟩
          · refine wp_region_quiet_grown (by assumption) (by kernel_rfl) ?_
            repeat (go_big_quiet_step (first | (go_at_call 14; with_reducible refine Calls.grown_of (kO _ _))))
            refine wpQuiet_nil ?_
            intro V hw'
            obtain ⟨⟨nq, osq⟩, hw''⟩ := hw'
            have HGV : Hid (Grows W9 V) := by apply hide; rw [hw'']; exact HG.out.trans ⟨nq, osq, rfl⟩
            clear hw'' kO z0 z1 z2 z3 z4 y0 y1 y2 y3 y4
            go_wp2_with fail
            go_roundg (n - (k + 1))
            case measure => omega
            case rel => exact ⟨k + 1, by first | (rw [HW2.out]; rfl) | rfl, hkl, Nat.le_refl _, by unfold inB; rw [HTK.out]; simp, HGV⟩
          · have e1 : (a4 == g4) = false := by simpa using h1
            refine wp_region_quiet_grown (by assumption) (by kernel_rfl) ?_
            repeat (go_big_quiet_step (first | (go_at_call 14; with_reducible refine Calls.grown_of (kO _ _))))
            refine wpQuiet_nil ?_
            intro V hw'
            obtain ⟨⟨nq, osq⟩, hw''⟩ := hw'
            have HGV : Hid (Grows W9 V) := by apply hide; rw [hw'']; exact HG.out.trans ⟨nq, osq, rfl⟩
            clear hw'' kO z0 z1 z2 z3 z4 y0 y1 y2 y3 y4
            go_wp2_with fail
            go_roundg (n - (k + 1))
            case measure => omega
            case rel => exact ⟨k + 1, by first | (rw [HW2.out]; rfl) | rfl, hkl, Nat.le_refl _, by unfold inB; rw [HTK.out]; rw [decide_eq_false h1]; rfl, HGV⟩
          · subst h1
            refine wp_region_quiet_grown (by assumption) (by kernel_rfl) ?_
            repeat (go_big_quiet_step (first | (go_at_call 14; with_reducible refine Calls.grown_of (kO _ _))))
            refine wpQuiet_nil ?_
            intro V hw'
            obtain ⟨⟨nq, osq⟩, hw''⟩ := hw'
            have HGV : Hid (Grows W9 V) := by apply hide; rw [hw'']; exact HG.out.trans ⟨nq, osq, rfl⟩
            clear hw'' kO z0 z1 z2 z3 z4 y0 y1 y2 y3 y4
            go_wp2_with fail
            go_roundg (n - (k + 1))
            case measure => omega
            case rel => exact ⟨k + 1, by first | (rw [HW2.out]; rfl) | rfl, hkl, Nat.le_refl _, by unfold inB; rw [HTK.out]; simp, HGV⟩
        · have hkz : ¬ (k : Int) < (n : Int) := by omega
          have hfull : (l.take k).any (inB ((g1, g2, g3), g4, g5)) = l.any (inB ((g1, g2, g3), g4, g5)) := by rw [List.take_of_length_le (by have := HN.out; omega)]
          rw [hfull]
          obtain ⟨b0, hb0⟩ : ∃ b, b = l.any (inB ((g1, g2, g3), g4, g5)) := ⟨_, rfl⟩
          rw [← hb0]
          have HB0 := hide hb0
          clear hfull hb0
          cases b0
          case true =>
            go_wp2_with fail
            go_roundg (20 - (i + 1))
            case measure => omega
            case rel => exact ⟨i + 1, F, s, ex, x11, rfl, by first | (rw [HW1.out]; rfl) | rfl, by omega, by omega, Nat.le_refl _, by omega, HMq, HEX⟩
          case false =>
            have hnew : ∀ x ∈ l, ¬ (x.1 = (g1, g2, g3) ∧ x.2.1 = g4) := by
              intro x hx hh
              have h1 := HB0.out.symm
              rw [List.any_eq_false] at h1
              refine h1 x hx ?_
              unfold inB
              rw [Bool.and_eq_true, decide_eq_true_eq, decide_eq_true_eq]
              exact hh
            have kA := add_any wq tb F s g1 g2 g3 g4 g5 HMq.out.tl HMq.out.tr.wf HFW.out.b3 (by have := HMq.out.few.1; omega) (fun e he => by have := HMq.out.few.2 e he; omega)
            have hany := HMq.out.tr.any HFW.out
            obtain ⟨ad, had⟩ : ∃ ad, ad = addF s ((g1, g2, g3), g4, g5) := ⟨_, rfl⟩
            rw [← had] at kA hany
            have HNEW := hide hnew
            have HANY := hide hany
            have c0 := HBXq.out.cell 0 _ rfl
            have c1 := HBXq.out.cell 1 _ rfl
            have c2 := HBXq.out.cell 2 _ rfl
            have c3 := HBXq.out.cell 3 _ rfl
            have c4 := HBXq.out.cell 4 _ rfl
            clear hnew hany had
            go_wp2_with fail
            refine kA.mono ?_
            rintro ev w5 ⟨rfl, F', htw⟩
            obtain ⟨a1, a2⟩ := ad
            have HBX5 : Hid (BxA w5 b9 32 #[.int .i64 g1, .int .i64 g2, .int .i64 g3, .int .i64 g4, .int .i64 g5]) := HBXq.out.fr htw.fr HNF.out
            have HTW := hide htw
            clear kA htw c0 c1 c2 c3 c4
            by_cases hz : a1 = 0
            · have hz1 : (a1 == 0) = true := by simpa using hz
              have HM5 : Hid (Mx w2 w5 tb F' a2 x11 ex (ex ++ [((g1, g2, g3), g4, g5)])) := HMq.out.step HTW.out (HANY.out.1 hz)
              have c0 := HBX5.out.cell 0 _ rfl
              have c1 := HBX5.out.cell 1 _ rfl
              have c2 := HBX5.out.cell 2 _ rfl
              have c3 := HBX5.out.cell 3 _ rfl
              have c4 := HBX5.out.cell 4 _ rfl
              obtain ⟨w6, hw6⟩ : ∃ w6, w6 = w5.alloc (.cells #[.int .i64 g1, .int .i64 g2, .int .i64 g3, .int .i64 g4, .int .i64 g5] 32) := ⟨_, rfl⟩
              have HLO : Hid (RdsK 5 w6 (.slice (some ⟨w5.heap.size, 0, none⟩) 1 1) 1 [.int .i64 g1, .int .i64 g2, .int .i64 g3, .int .i64 g4, .int .i64 g5]) := by apply hide; rw [hw6]; exact RdsK.of_own (lit_ownK w5 [.int .i64 g1, .int .i64 g2, .int .i64 g3, .int .i64 g4, .int .i64 g5] 32 1 5 rfl (by simp [maxLen]))
              have HAO : Hid (w6.ownsRow w2.heap.size 32 5 x11 ex.length (sgcs ex)) := by apply hide; rw [hw6]; exact World.ownsRow.alloc HM5.out.own _
              have HW6 := hide hw6
              have hsz6 : w2.heap.size ≤ w6.heap.size := by rw [hw6]; have := HM5.out.bel.size; simp; omega
              clear hz hw6
              go_wp2_with (first | (at_builtin; rw [← HW6.out]; refine wpList_appF rfl _ _ 22 rfl w2.heap.size 32 i0 (.agg #[.int .i64 0, .int .i64 0, .int .i64 0, .int .i64 0, .int .i64 0]) 5 40 Try.underlying22 hi0 hi1 hi2 hi3 rfl (by decide) x11 ex.length (sgcs ex) rfl HAO.out (.slice (some ⟨w5.heap.size, 0, none⟩) 1 1) 1 [.int .i64 g1, .int .i64 g2, .int .i64 g3, .int .i64 g4, .int .i64 g5] rfl HLO.out (fun u hu => by simp at hu; rcases hu with rfl | rfl | rfl | rfl | rfl <;> rfl) (by unfold maxLen; omega) (by omega) hsz6 ?_; intro v7 w7 o7 g7 hx7; have H7 : Hid (w7.ownsRow w2.heap.size 32 5 v7 (ex.length + 1) (sgcs ex ++ [.int .i64 g1, .int .i64 g2, .int .i64 g3, .int .i64 g4, .int .i64 g5]) ∧ w6.grownBy w7 x11.ownBlock) := ⟨o7, g7⟩; have HX7 : Hid _ := hx7; clear o7 g7 hx7))
              obtain ⟨o7, g7⟩ := H7.out
              have gA : w5.grownBy w7 x11.ownBlock := grown_trans (by rw [HW6.out]; exact grown_alloc _ _ _) g7
              have s6 : w5.heap.size ≤ w6.heap.size := by rw [HW6.out]; simp
              go_roundg (20 - (i + 1))
              case measure => omega
              case rel =>
                refine ⟨i + 1, F', a2, ex ++ [((g1, g2, g3), g4, g5)], v7, rfl, by first | (rw [HW1.out]; rfl) | rfl, by omega, by omega, Nat.le_refl _, by simp; omega, ?_, ?_⟩
                · apply hide
                  refine HM5.out.app (Gr.of gA ?_) ?_
                  · rcases HX7.out with q | ⟨g, q, hg⟩
                    · exact .inl q
                    · exact .inr ⟨g, q, by omega⟩
                  · rw [sgcs_append, List.length_append]
                    exact o7
                · intro g hg x hx
                  rcases List.mem_append.1 hg with q | q
                  · exact HEX.out g q x hx
                  · rw [List.mem_singleton.1 q]; exact HNEW.out x hx
            · have hz1 : (a1 == 0) = false := by simpa using hz
              have HM5 : Hid (Mx w2 w5 tb F' a2 x11 ex ex) := by
                apply hide
                have e : a2 = s := HANY.out.2 hz
                exact HMq.out.step HTW.out (by rw [e]; exact HMq.out.tr)
              clear hz
              go_wp2_with fail
              go_roundg (20 - (i + 1))
              case measure => omega
              case rel => exact ⟨i + 1, F', a2, ex, x11, rfl, by first | (rw [HW1.out]; rfl) | rfl, by omega, by omega, Nat.le_refl _, by omega, HM5, HEX⟩
    · have hsplit : ¬ i < n2 ∨ (i < n2 ∧ ¬ i < 20) := by omega
      rcases hsplit with hg1 | ⟨hg1, hg2⟩
      · have hg1z : ¬ (i : Int) < (n2 : Int) := by omega
        have HND : Hid l.Nodup := HTR.out.nodup
        have HFL : Hid (∀ g ∈ l, Few g) := HTR.out.few
        have hex20 : ex.length ≤ 20 := by omega
        obtain ⟨q, hq⟩ : ∃ q, q = A % n := ⟨_, rfl⟩
        have HQ := hide hq
        have HM0 : Hid (Mx w2 wr tb F s x11 ex (ex ++ (trn l q).take 0)) := by apply hide; rw [List.take_zero, List.append_nil]; exact HM.out
        clear hq hexl hi20 hin2 hkx
        go_upto_region 19 with fail
        clear hg1 hg1z
        try clear hg2 hg2z
        go_loopg [16] n (fun kx3 v16 wr => ∃ (k : Nat) (F3 : Nat → Prop) (s3 : List Es), v16 = .int .i64 (k : Int) ∧ k ≤ n ∧ n - k ≤ kx3 ∧ Hid (Mx w2 wr tb F3 s3 x11 ex (ex ++ (trn l q).take k)))
        case atStart => exact ⟨0, _, _, rfl, Nat.zero_le _, Nat.le_refl _, HM0⟩
        case round =>
          rename World => wq
          obtain ⟨k, F3, s3, rfl, hk, hkx3, HM3'⟩ := hrel
          by_cases hkn : k < n
          · have hkz : (k : Int) < (n : Int) := by omega
            obtain ⟨j, ix⟩ := Ix.ex (A := A) hkn (by omega) HQ.out
            have hjl : j < l.length := by have := HN.out; have := ix.jn; omega
            have hkt : k < (trn l q).length := by rw [trn_len]; have := HN.out; omega
            have hget : (trn l q)[k] = l[j] := trn_get' HN.out ix.qn hkn ix.je hjl hkt
            have htn := HM3'.out.tr.turn HND.out HFL.out HEX.out hkt
            rw [hget] at htn
            have hfew := HFL.out _ (List.getElem_mem hjl)
            obtain ⟨lb, lo, rfl, ha⟩ := HL3.out wq HM3'.out.bel j hjl
            obtain ⟨g, hg⟩ : ∃ g, g = l[j] := ⟨_, rfl⟩
            rw [← hg] at htn hfew ha
            obtain ⟨⟨g1, g2, g3⟩, g4, g5⟩ := g
            have hL60 : (ex ++ (trn l q).take k).length ≤ 60 := by rw [List.length_append, List.length_take]; omega
            have kA := add_any wq tb F3 s3 g1 g2 g3 g4 g5 HM3'.out.tl HM3'.out.tr.wf hfew.b3 (by have := HM3'.out.few.1; omega) (fun e he => by have := HM3'.out.few.2 e he; omega)
            obtain ⟨ad, had⟩ : ∃ ad, ad = addF s3 ((g1, g2, g3), g4, g5) := ⟨_, rfl⟩
            rw [← had] at kA htn
            obtain ⟨a1, a2⟩ := ad
            obtain ⟨h0, htr⟩ := htn
            simp only at h0 htr
            subst h0
            have HTR2 := hide htr
            have c0 := ha.c0
            have c1 := ha.c1
            have c2 := ha.c2
            have c3 := ha.c3
            have c4 := ha.c4
            simp only at c0 c1 c2 c3 c4
            have hjn := ix.jn
            have hjz : (j : Int) < (n : Int) := by omega
            have hj0 : ¬ (j : Int) < 0 := by omega
            have hnz : ((n : Int) == 0) = false := by simp; omega
            have hnz' : ¬ (n : Int) = 0 := by omega
            have HW2 : Hid (wrap64 ((k : Int) + 1) = (k : Int) + 1) := by apply hide; rw [← IntWalk.i64_left, IntKind.wrap_i64]; omega
            have hqn := ix.qn
            have hm1 : ∀ z : Int, z = (A : Int) → z % (n : Int) = (q : Int) := by
              rintro z rfl
              have e := ix.m1
              rw [Int.tmod_eq_emod_of_nonneg (Int.natCast_nonneg A)] at e
              exact e
            have hm2 : ∀ z : Int, z = (n : Int) - 1 - (k : Int) + (q : Int) → z % (n : Int) = (j : Int) := by
              rintro z rfl
              have e := ix.m2
              rw [Int.tmod_eq_emod_of_nonneg (by clear e; omega)] at e
              exact e
            have kAb := HKA.out wq
            clear ix ha hg htr had hget hjl hfew hL60
            go_wp2_with fail
            refine kAb.mono ?_
            rintro ev wx ⟨rfl, rfl⟩
            clear kAb
            go_wp2_with fail
            refine kA.mono ?_
            rintro ev w5 ⟨rfl, F', htw⟩
            have HM5 : Hid (Mx w2 w5 tb F' a2 x11 ex (ex ++ (trn l q).take (k + 1))) := HM3'.out.step htw HTR2.out
            clear kA htw c0 c1 c2 c3 c4
            go_wp2_with fail
            go_roundg (n - (k + 1))
            case measure => omega
            case rel => exact ⟨k + 1, F', a2, by first | (rw [HW2.out]; rfl) | rfl, hkn, Nat.le_refl _, HM5⟩
          · have hkz : ¬ (k : Int) < (n : Int) := by omega
            have hfull : ex ++ (trn l q).take k = ex ++ trn l q := by rw [List.take_of_length_le (by rw [trn_len]; have := HN.out; omega)]
            have HM4 : Hid (Mx w2 wq tb F3 s3 x11 ex (ex.drop 0 ++ trn l q)) := by apply hide; rw [List.drop_zero, ← hfull]; exact HM3'.out
            obtain ⟨xa, xc, hxv, hx1, hx2, -⟩ := (Sgr.of HM4.out.own).ex
            obtain ⟨m, hm⟩ : ∃ m, m = ex.length := ⟨_, rfl⟩
            rw [← hm] at hxv hx1 hex20
            have HMM := hide hm
            unfold maxLen at hx2
            clear hfull hm HM3'
            subst hxv
            go_upto_region 24 with fail
            go_loopg [17] m (fun kx4 v17 wr => ∃ (k4 : Nat) (F4 : Nat → Prop) (s4 : List Es), v17 = .int .i64 (k4 : Int) ∧ k4 ≤ m ∧ m - k4 ≤ kx4 ∧ Hid (Mx w2 wr tb F4 s4 (.slice xa m xc) ex (ex.drop k4 ++ trn l q)))
            case atStart => exact ⟨0, _, _, rfl, Nat.zero_le _, Nat.le_refl _, HM4⟩
            case round =>
              rename World => wz
              obtain ⟨k4, F4, s4, rfl, hk4, hkx4, HM4'⟩ := hrel
              by_cases hkm : k4 < m
              · have hkmz : (k4 : Int) < (m : Int) := by omega
                have hke : k4 < ex.length := by have := HMM.out; omega
                have hrm := HM4'.out.tr.rem hke
                have hfew : Few ex[k4] := HM4'.out.tr.few _ (by rw [List.drop_eq_getElem_cons hke]; exact List.mem_append.2 (.inl (List.mem_cons_self ..)))
                obtain ⟨eb, eo, ec, hev, ha⟩ := (Sgr.of HM4'.out.own).at k4 hke
                injection hev with hev1 hev2 hev3
                subst hev1
                clear hev2 hev3
                obtain ⟨g, hg⟩ : ∃ g, g = ex[k4] := ⟨_, rfl⟩
                rw [← hg] at hrm hfew ha
                obtain ⟨⟨g1, g2, g3⟩, g4, g5⟩ := g
                have hL60 : (ex.drop k4 ++ trn l q).length ≤ 60 := by rw [List.length_append, List.length_drop, trn_len]; have := HN.out; have := HMM.out; omega
                have kR := rem_any wz tb F4 s4 g1 g2 g3 g4 g5 HM4'.out.tl HM4'.out.tr.wf hfew.b3 (by have := HM4'.out.few.1; omega) (fun e he => by have := HM4'.out.few.2 e he; omega)
                obtain ⟨ad, had⟩ : ∃ ad, ad = remF s4 ((g1, g2, g3), g4, g5) := ⟨_, rfl⟩
                rw [← had] at kR hrm
                obtain ⟨a1, a2⟩ := ad
                obtain ⟨h0, htr⟩ := hrm
                simp only at h0 htr
                subst h0
                have HTR2 := hide htr
                have c0 := ha.c0
                have c1 := ha.c1
                have c2 := ha.c2
                have c3 := ha.c3
                have c4 := ha.c4
                simp only at c0 c1 c2 c3 c4
                have HW2 : Hid (wrap64 ((k4 : Int) + 1) = (k4 : Int) + 1) := by apply hide; rw [← IntWalk.i64_left, IntKind.wrap_i64]; omega
                clear ha hg htr had hke hfew hL60
                go_wp2_with fail
                refine kR.mono ?_
                rintro ev w5 ⟨rfl, F', htw⟩
                have HM5 : Hid (Mx w2 w5 tb F' a2 (.slice (some ⟨eb, eo, none⟩) m xc) ex (ex.drop (k4 + 1) ++ trn l q)) := HM4'.out.step htw HTR2.out
                clear kR htw c0 c1 c2 c3 c4
                go_wp2_with fail
                go_roundg (m - (k4 + 1))
                case measure => omega
                case rel => exact ⟨k4 + 1, F', a2, by first | (rw [HW2.out]; rfl) | rfl, hkm, Nat.le_refl _, HM5⟩
              · have hkmz : ¬ (k4 : Int) < (m : Int) := by omega
                have htr : TrS l s4 := by
                  have h1 := HM4'.out.tr
                  rw [List.drop_of_length_le (by have := HMM.out; omega), List.nil_append] at h1
                  exact ⟨h1.wf, h1.pm.trans (trn_perm l q), HTR.out.few⟩
                have HTB' := hide htr
                have hl40 : l.length ≤ 40 := by have := HN.out; omega
                have HL40 := hide hl40
                have HLA := hide (HTR.out.len hl40)
                have HLB := hide (htr.len hl40)
                obtain ⟨V, hV⟩ : ∃ V, V = wz.alloc (.cells #[.int .i64 0, .int .i64 1099511627776] 24) := ⟨_, rfl⟩
                obtain ⟨b18, hb18⟩ : ∃ b, b = wz.heap.size := ⟨_, rfl⟩
                have HX : Hid (BxA V b18 24 #[.int .i64 0, .int .i64 1099511627776]) := by apply hide; rw [hV, hb18]; exact BxA.new _ _ _
                have HGV : Hid (Grows wz V) := by apply hide; rw [hV]; exact Grows.alloc _ _
                have HMV : Hid (Mx w2 V tb F4 s4 (.slice xa m xc) ex (ex.drop k4 ++ trn l q)) := HM4'.out.up HGV.out.below
                have HTA2 : Hid (∀ w', Below V.heap.size V w' → Tl w' ta Fa sa) := fun w' hb => HTA.out w' (HMV.out.bel.trans (hb.mono HMV.out.bel.size))
                have HTB2 : Hid (∀ w', Below V.heap.size V w' → Tl w' tb F4 s4) := fun w' hb => HMV.out.tl.below hb
                have HVE := hide hV
                have HBE := hide hb18
                clear htr hV hb18 hl40
                go_upto_region 29 with fail
                have hSig0 : Below V.heap.size V V.drew := (Below.refl _ _).drew
                rw [← HVE.out, ← HBE.out]
                have hS00 : True := trivial
                try dsimp only
                refine wp_region_invF (β := Value × Value × Value × Value × Value × Value × Value × Value) (fun a0 xq => ((((((((a0.put (some 122) (xq.1)).put (some 123) (xq.2.1)).put (some 124) (xq.2.2.1)).put (some 125) (xq.2.2.2.1)).put (some 126) (xq.2.2.2.2.1)).put (some 127) (xq.2.2.2.2.2.1)).put (some 128) (xq.2.2.2.2.2.2.1)).put (some 19) (xq.2.2.2.2.2.2.2))) ?fr2900 (fun xq d w' => (Below V.heap.size V w') ∧ ((d 0 = true → (xq.1) = .pointer (some ⟨ta, 0, none⟩)) ∧ (d 1 = true → (xq.2.1) = .agg #[.int .i64 0, .int .i64 1099511627776]) ∧ (d 3 = true → (xq.2.2.2.1) = .pointer (some ⟨tb, 0, none⟩)) ∧ (d 4 = true → (xq.2.2.2.2.1) = .agg #[.int .i64 0, .int .i64 1099511627776])) ∧ ∃ j : Nat, j ≤ 4 ∧ (d 2 = decide (0 < j) ∧ d 5 = decide (1 < j) ∧ d 6 = decide (2 < j) ∧ d 7 = decide (3 < j)) ∧ ((j = 0 → True) ∧ (j = 1 → ∃ p, Pgr w' (xq.2.2.1) p ∧ LkS sa p) ∧ (j = 2 → ∃ p, Pgr w' (xq.2.2.1) p ∧ Pgr w' (xq.2.2.2.2.2.1) p ∧ p.length ≤ 1000) ∧ (j = 3 → (xq.2.2.2.2.2.2.1) = .bool true) ∧ (j = 4 → (xq.2.2.2.2.2.2.2) = .bool true))) ?lay2900 mixed (by kernel_rfl) ?h02900 ?hs2900 ?he2900
                case lay2900 =>
                  intro xq
                  simp only [Act.put, List.setIfInBounds_toArray, List.set_cons_zero, List.set_cons_succ]
                  rfl
                case h02900 =>
                  refine ⟨(undef, undef, undef, undef, undef, undef, undef, undef), rfl, ?sig2900, ⟨(fun h => by cases h), (fun h => by cases h), (fun h => by cases h), (fun h => by cases h)⟩, 0, Nat.zero_le _, ⟨rfl, rfl, rfl, rfl⟩, ?S02900, (fun h => by cases h), (fun h => by cases h), (fun h => by cases h), (fun h => by cases h)⟩
                  case sig2900 => exact hSig0
                  case S02900 => exact fun _ => hS00
                case hs2900 =>
                  refine ⟨?_, ?_, ?_, ?_, ?_, ?_, ?_, ?_, trivial⟩
                  · rintro d ⟨x122, x123, x124, x125, x126, x127, x128, x19⟩ w' hI hd hdp KQ hK
                    dsimp only at hI
                    obtain ⟨hS, ⟨f0, f1, f3, f4⟩, j, hj, ⟨dd2, dd5, dd6, dd7⟩, ⟨p0, p1, p2, p3, p4⟩⟩ := hI
                    have HF : Hid _ := And.intro hS (And.intro (And.intro f0 (And.intro f1 (And.intro f3 f4))) (And.intro hj (And.intro (And.intro dd2 (And.intro dd5 (And.intro dd6 dd7))) (And.intro p0 (And.intro p1 (And.intro p2 (And.intro p3 p4)))))))
                    clear hS f0 f1 f3 f4 hj dd2 dd5 dd6 dd7 p0 p1 p2 p3 p4 hdp hd
                    refine Opn.mk ?_
                    dsimp only
                    go_simp
                    obtain ⟨hS, ⟨f0, f1, f3, f4⟩, hj, ⟨dd2, dd5, dd6, dd7⟩, ⟨p0, p1, p2, p3, p4⟩⟩ := HF.out
                    exact hK.out (.pointer (some ⟨ta, 0, none⟩), x123, x124, x125, x126, x127, x128, x19) _ ⟨hS, ⟨(fun _ => rfl), (fun h => f1 (upd_ne h (by decide))), (fun h => f3 (upd_ne h (by decide))), (fun h => f4 (upd_ne h (by decide)))⟩, j, hj, ⟨((upd_no (by decide)).trans dd2), ((upd_no (by decide)).trans dd5), ((upd_no (by decide)).trans dd6), ((upd_no (by decide)).trans dd7)⟩, ⟨p0, p1, p2, p3, p4⟩⟩
                  · rintro d ⟨x122, x123, x124, x125, x126, x127, x128, x19⟩ w' hI hd hdp KQ hK
                    dsimp only at hI
                    obtain ⟨hS, ⟨f0, f1, f3, f4⟩, j, hj, ⟨dd2, dd5, dd6, dd7⟩, ⟨p0, p1, p2, p3, p4⟩⟩ := hI
                    have hx := HX.out.up hS
                    have c0 := hx.cell 0 _ rfl
                    have c1 := hx.cell 1 _ rfl
                    clear hx
                    have HF : Hid _ := And.intro hS (And.intro (And.intro f0 (And.intro f1 (And.intro f3 f4))) (And.intro hj (And.intro (And.intro dd2 (And.intro dd5 (And.intro dd6 dd7))) (And.intro p0 (And.intro p1 (And.intro p2 (And.intro p3 p4)))))))
                    clear hS f0 f1 f3 f4 hj dd2 dd5 dd6 dd7 p0 p1 p2 p3 p4 hdp hd
                    refine Opn.mk ?_
                    dsimp only
                    go_simp
                    obtain ⟨hS, ⟨f0, f1, f3, f4⟩, hj, ⟨dd2, dd5, dd6, dd7⟩, ⟨p0, p1, p2, p3, p4⟩⟩ := HF.out
                    exact hK.out (x122, .agg #[.int .i64 0, .int .i64 1099511627776], x124, x125, x126, x127, x128, x19) _ ⟨hS, ⟨(fun h => f0 (upd_ne h (by decide))), (fun _ => rfl), (fun h => f3 (upd_ne h (by decide))), (fun h => f4 (upd_ne h (by decide)))⟩, j, hj, ⟨((upd_no (by decide)).trans dd2), ((upd_no (by decide)).trans dd5), ((upd_no (by decide)).trans dd6), ((upd_no (by decide)).trans dd7)⟩, ⟨p0, p1, p2, p3, p4⟩⟩
                  · rintro d ⟨x122, x123, x124, x125, x126, x127, x128, x19⟩ w' hI hd hdp KQ hK
                    dsimp only at hI
                    obtain ⟨hS, ⟨f0, f1, f3, f4⟩, j, hj, ⟨dd2, dd5, dd6, dd7⟩, ⟨p0, p1, p2, p3, p4⟩⟩ := hI
                    obtain rfl := f0 (hdp 0 (by decide +kernel))
                    obtain rfl := f1 (hdp 1 (by decide +kernel))
                    obtain rfl := ph_zero dd2 hd
                    have s := p0 rfl
                    clear p0 p1 p2 p3 p4 hj
                    have kL := lookup_any w' ta Fa sa 0 1099511627776 (HTA2.out w' hS) HTR.out.wf (by have := HLA.out.1; omega) (fun e he => by have := HLA.out.2 e he; omega)
                    have HG : Hid _ := And.intro hS s
                    clear hS s
                    have HF : Hid _ := And.intro (And.intro f0 (And.intro f1 (And.intro f3 f4))) (And.intro dd2 (And.intro dd5 (And.intro dd6 dd7)))
                    clear f0 f1 f3 f4 dd2 dd5 dd6 dd7 hdp hd
                    refine Opn.mk ?_
                    dsimp only
                    go_simp
                    go_wp2_with (first | (go_at_call 11; with_reducible refine kL.mono ?_; rintro e5 w5 ⟨vq, rfl, out, sy, o5, b5⟩))
                    obtain ⟨hS, s⟩ := HG.out
                    obtain ⟨⟨f0, f1, f3, f4⟩, ⟨dd2, dd5, dd6, dd7⟩⟩ := HF.out
                    refine hK.out (.pointer (some ⟨ta, 0, none⟩), .agg #[.int .i64 0, .int .i64 1099511627776], vq, x125, x126, x127, x128, x19) _ ⟨?sg, ⟨(fun _ => rfl), (fun _ => rfl), (fun h => f3 (upd_ne h (by decide))), (fun h => f4 (upd_ne h (by decide)))⟩, 1, by decide, ⟨(by simp [upd]), ((upd_no (by decide)).trans (dd5.trans (by decide))), ((upd_no (by decide)).trans (dd6.trans (by decide))), ((upd_no (by decide)).trans (dd7.trans (by decide)))⟩, ⟨(fun h => absurd h (by decide)), (fun _ => ?new), (fun h => absurd h (by decide)), (fun h => absurd h (by decide)), (fun h => absurd h (by decide))⟩⟩
                    case sg => exact hS.trans (b5.mono hS.size)
                    case new =>
                      exact ⟨_, Pgr.of o5, ⟨⟨_, sy, rfl⟩⟩⟩
                  · rintro d ⟨x122, x123, x124, x125, x126, x127, x128, x19⟩ w' hI hd hdp KQ hK
                    dsimp only at hI
                    obtain ⟨hS, ⟨f0, f1, f3, f4⟩, j, hj, ⟨dd2, dd5, dd6, dd7⟩, ⟨p0, p1, p2, p3, p4⟩⟩ := hI
                    have HF : Hid _ := And.intro hS (And.intro (And.intro f0 (And.intro f1 (And.intro f3 f4))) (And.intro hj (And.intro (And.intro dd2 (And.intro dd5 (And.intro dd6 dd7))) (And.intro p0 (And.intro p1 (And.intro p2 (And.intro p3 p4)))))))
                    clear hS f0 f1 f3 f4 hj dd2 dd5 dd6 dd7 p0 p1 p2 p3 p4 hdp hd
                    refine Opn.mk ?_
                    dsimp only
                    go_simp
                    obtain ⟨hS, ⟨f0, f1, f3, f4⟩, hj, ⟨dd2, dd5, dd6, dd7⟩, ⟨p0, p1, p2, p3, p4⟩⟩ := HF.out
                    exact hK.out (x122, x123, x124, .pointer (some ⟨tb, 0, none⟩), x126, x127, x128, x19) _ ⟨hS, ⟨(fun h => f0 (upd_ne h (by decide))), (fun h => f1 (upd_ne h (by decide))), (fun _ => rfl), (fun h => f4 (upd_ne h (by decide)))⟩, j, hj, ⟨((upd_no (by decide)).trans dd2), ((upd_no (by decide)).trans dd5), ((upd_no (by decide)).trans dd6), ((upd_no (by decide)).trans dd7)⟩, ⟨p0, p1, p2, p3, p4⟩⟩
                  · rintro d ⟨x122, x123, x124, x125, x126, x127, x128, x19⟩ w' hI hd hdp KQ hK
                    dsimp only at hI
                    obtain ⟨hS, ⟨f0, f1, f3, f4⟩, j, hj, ⟨dd2, dd5, dd6, dd7⟩, ⟨p0, p1, p2, p3, p4⟩⟩ := hI
                    have hx := HX.out.up hS
                    have c0 := hx.cell 0 _ rfl
                    have c1 := hx.cell 1 _ rfl
                    clear hx
                    have HF : Hid _ := And.intro hS (And.intro (And.intro f0 (And.intro f1 (And.intro f3 f4))) (And.intro hj (And.intro (And.intro dd2 (And.intro dd5 (And.intro dd6 dd7))) (And.intro p0 (And.intro p1 (And.intro p2 (And.intro p3 p4)))))))
                    clear hS f0 f1 f3 f4 hj dd2 dd5 dd6 dd7 p0 p1 p2 p3 p4 hdp hd
                    refine Opn.mk ?_
                    dsimp only
                    go_simp
                    obtain ⟨hS, ⟨f0, f1, f3, f4⟩, hj, ⟨dd2, dd5, dd6, dd7⟩, ⟨p0, p1, p2, p3, p4⟩⟩ := HF.out
                    exact hK.out (x122, x123, x124, x125, .agg #[.int .i64 0, .int .i64 1099511627776], x127, x128, x19) _ ⟨hS, ⟨(fun h => f0 (upd_ne h (by decide))), (fun h => f1 (upd_ne h (by decide))), (fun h => f3 (upd_ne h (by decide))), (fun _ => rfl)⟩, j, hj, ⟨((upd_no (by decide)).trans dd2), ((upd_no (by decide)).trans dd5), ((upd_no (by decide)).trans dd6), ((upd_no (by decide)).trans dd7)⟩, ⟨p0, p1, p2, p3, p4⟩⟩
                  · rintro d ⟨x122, x123, x124, x125, x126, x127, x128, x19⟩ w' hI hd hdp KQ hK
                    dsimp only at hI
                    obtain ⟨hS, ⟨f0, f1, f3, f4⟩, j, hj, ⟨dd2, dd5, dd6, dd7⟩, ⟨p0, p1, p2, p3, p4⟩⟩ := hI
                    obtain rfl := f3 (hdp 3 (by decide +kernel))
                    obtain rfl := f4 (hdp 4 (by decide +kernel))
                    obtain rfl := ph_eq (k := 0) dd5 hd dd2 (hdp 2 (by decide +kernel))
                    have s := p1 rfl
                    clear p0 p1 p2 p3 p4 hj
                    have kL := lookup_any w' tb F4 s4 0 1099511627776 (HTB2.out w' hS) HTB'.out.wf (by have := HLB.out.1; omega) (fun e he => by have := HLB.out.2 e he; omega)
                    have HG : Hid _ := And.intro hS s
                    clear hS s
                    have HF : Hid _ := And.intro (And.intro f0 (And.intro f1 (And.intro f3 f4))) (And.intro dd2 (And.intro dd5 (And.intro dd6 dd7)))
                    clear f0 f1 f3 f4 dd2 dd5 dd6 dd7 hdp hd
                    refine Opn.mk ?_
                    dsimp only
                    go_simp
                    go_wp2_with (first | (go_at_call 11; with_reducible refine kL.mono ?_; rintro e5 w5 ⟨vq, rfl, out, sy, o5, b5⟩))
                    obtain ⟨hS, s⟩ := HG.out
                    obtain ⟨⟨f0, f1, f3, f4⟩, ⟨dd2, dd5, dd6, dd7⟩⟩ := HF.out
                    refine hK.out (x122, x123, x124, .pointer (some ⟨tb, 0, none⟩), .agg #[.int .i64 0, .int .i64 1099511627776], vq, x128, x19) _ ⟨?sg, ⟨(fun h => f0 (upd_ne h (by decide))), (fun h => f1 (upd_ne h (by decide))), (fun _ => rfl), (fun _ => rfl)⟩, 2, by decide, ⟨((upd_no (by decide)).trans (dd2.trans (by decide))), (by simp [upd]), ((upd_no (by decide)).trans (dd6.trans (by decide))), ((upd_no (by decide)).trans (dd7.trans (by decide)))⟩, ⟨(fun h => absurd h (by decide)), (fun h => absurd h (by decide)), (fun _ => ?new), (fun h => absurd h (by decide)), (fun h => absurd h (by decide))⟩⟩
                    case sg => exact hS.trans (b5.mono hS.size)
                    case new =>
                      obtain ⟨p, hp, lk⟩ := s
                      obtain ⟨out1, sy1, hpe⟩ := lk.ex
                      obtain ⟨e1, e2, _⟩ := HTR.out.told HTB'.out sy1 sy
                      refine ⟨p, hp.up b5, ?_, ?_⟩
                      · rw [hpe, e2]; exact Pgr.of o5
                      · rw [hpe]; exact lk_len HTR.out.wf HTR.out.pm HTR.out.few HL40.out (cut_of HTR.out.wf sy1)
                  · rintro d ⟨x122, x123, x124, x125, x126, x127, x128, x19⟩ w' hI hd hdp KQ hK
                    dsimp only at hI
                    obtain ⟨hS, ⟨f0, f1, f3, f4⟩, j, hj, ⟨dd2, dd5, dd6, dd7⟩, ⟨p0, p1, p2, p3, p4⟩⟩ := hI
                    obtain rfl := ph_eq (k := 1) dd6 hd dd5 (hdp 5 (by decide +kernel))
                    have s := p2 rfl
                    clear p0 p1 p2 p3 p4 hj
                    obtain ⟨p, hp, hp2, hpl⟩ := s
                    have kS := sameP_any w' x124 x127 p hp hp2 (by omega)
                    have HG : Hid _ := hS
                    clear hS hp hp2 hpl
                    have HF : Hid _ := And.intro (And.intro f0 (And.intro f1 (And.intro f3 f4))) (And.intro dd2 (And.intro dd5 (And.intro dd6 dd7)))
                    clear f0 f1 f3 f4 dd2 dd5 dd6 dd7 hdp hd
                    refine Opn.mk ?_
                    dsimp only
                    go_simp
                    go_wp2_with (first | (go_at_call 20; with_reducible refine kS.mono ?_; rintro e5 w5 ⟨rfl, g5⟩))
                    have hS := HG.out
                    obtain ⟨⟨f0, f1, f3, f4⟩, ⟨dd2, dd5, dd6, dd7⟩⟩ := HF.out
                    refine hK.out (x122, x123, x124, x125, x126, x127, .bool true, x19) _ ⟨?sg, ⟨(fun h => f0 (upd_ne h (by decide))), (fun h => f1 (upd_ne h (by decide))), (fun h => f3 (upd_ne h (by decide))), (fun h => f4 (upd_ne h (by decide)))⟩, 3, by decide, ⟨((upd_no (by decide)).trans (dd2.trans (by decide))), ((upd_no (by decide)).trans (dd5.trans (by decide))), (by simp [upd]), ((upd_no (by decide)).trans (dd7.trans (by decide)))⟩, ⟨(fun h => absurd h (by decide)), (fun h => absurd h (by decide)), (fun h => absurd h (by decide)), (fun _ => ?new), (fun h => absurd h (by decide))⟩⟩
                    case sg => exact hS.trans (g5.below.mono hS.size)
                    case new =>
                      rfl
                  · rintro d ⟨x122, x123, x124, x125, x126, x127, x128, x19⟩ w' hI hd hdp KQ hK
                    dsimp only at hI
                    obtain ⟨hS, ⟨f0, f1, f3, f4⟩, j, hj, ⟨dd2, dd5, dd6, dd7⟩, ⟨p0, p1, p2, p3, p4⟩⟩ := hI
                    obtain rfl := ph_eq (k := 2) dd7 hd dd6 (hdp 6 (by decide +kernel))
                    have s := p3 rfl
                    clear p0 p1 p2 p3 p4 hj
                    subst s
                    have HG : Hid _ := hS
                    clear hS
                    have HF : Hid _ := And.intro (And.intro f0 (And.intro f1 (And.intro f3 f4))) (And.intro dd2 (And.intro dd5 (And.intro dd6 dd7)))
                    clear f0 f1 f3 f4 dd2 dd5 dd6 dd7 hdp hd
                    refine Opn.mk ?_
                    dsimp only
                    go_simp
                    have hS := HG.out
                    obtain ⟨⟨f0, f1, f3, f4⟩, ⟨dd2, dd5, dd6, dd7⟩⟩ := HF.out
                    refine hK.out (x122, x123, x124, x125, x126, x127, .bool true, .bool true) _ ⟨?sg, ⟨(fun h => f0 (upd_ne h (by decide))), (fun h => f1 (upd_ne h (by decide))), (fun h => f3 (upd_ne h (by decide))), (fun h => f4 (upd_ne h (by decide)))⟩, 4, by decide, ⟨((upd_no (by decide)).trans (dd2.trans (by decide))), ((upd_no (by decide)).trans (dd5.trans (by decide))), ((upd_no (by decide)).trans (dd6.trans (by decide))), (by simp [upd])⟩, ⟨(fun h => absurd h (by decide)), (fun h => absurd h (by decide)), (fun h => absurd h (by decide)), (fun h => absurd h (by decide)), (fun _ => ?new)⟩⟩
                    case sg => exact hS
                    case new =>
                      rfl
                case he2900 =>
                  rintro d ⟨x122, x123, x124, x125, x126, x127, x128, x19⟩ w' hall hI
                  dsimp only at hI
                  obtain ⟨hS, ⟨f0, f1, f3, f4⟩, j, hj, ⟨dd2, dd5, dd6, dd7⟩, ⟨p0, p1, p2, p3, p4⟩⟩ := hI
                  obtain rfl := ph_end (k := 3) hj dd7 (hall 7 (by decide))
                  have s := p4 rfl

                  clear hall hj f0 f1 f3 f4 dd2 dd5 dd6 dd7 p0 p1 p2 p3 p4
                  subst s
                  have HSV : Hid (Below V.heap.size V w') := hS
                  have tla := HTA2.out w' hS
                  have kV := vis_any w' ta Fa sa tla HTR.out.wf (by have := HLA.out.1; omega) (fun e he => by have := HLA.out.2 e he; omega)
                  clear hS tla
                  go_wp2_with fail
                  refine kV.mono ?_
                  rintro ev w10 ⟨va, outa, ka, rfl, sya, har, ham, hal, oa, ba⟩
                  have HB10 : Hid (Below V.heap.size V w10) := HSV.out.trans (ba.mono HSV.out.size)
                  have HSYA := hide sya
                  have HKA2 := hide (And.intro har (And.intro ham hal))
                  have HOA := hide (Sgr.of oa)
                  have kV2 := vis_any w10 tb F4 s4 (HTB2.out w10 HB10.out) HTB'.out.wf (by have := HLB.out.1; omega) (fun e he => by have := HLB.out.2 e he; omega)
                  clear kV sya har ham hal oa ba
                  go_wp2_with fail
                  refine kV2.mono ?_
                  rintro ev w11 ⟨vb, outb, kb, rfl, syb, hbr, hbm, hbl, ob, bb⟩
                  have HB11 : Hid (Below V.heap.size V w11) := HB10.out.trans (bb.mono HB10.out.size)
                  obtain ⟨e1, _, e3, e4⟩ := HTR.out.told HTB'.out HSYA.out syb
                  have hk : kb = ka := stn_eq hbr HKA2.out.1 fun x => by rw [hbm, HKA2.out.2.1, e1]
                  rw [hk, ← e3 ka] at ob
                  have hpl : (segL sa ka).length ≤ 80000 := by
                    have := segL_len HLA.out.2 ka
                    have h3 : ka.length * 40 ≤ 2000 * 40 := Nat.mul_le_mul_right 40 HKA2.out.2.2
                    omega
                  have kS := same_any w11 va vb (segL sa ka) (HOA.out.up bb) (Sgr.of ob) (by omega)
                  have HE3 := hide e3
                  have HE4 := hide e4
                  clear kV2 syb hbr hbm hbl ob bb e1 e3 e4 hk hpl
                  go_wp2_with fail
                  refine kS.mono ?_
                  rintro ev w12 ⟨rfl, g12⟩
                  have HB12 : Hid (Below V.heap.size V w12) := HB11.out.trans (g12.below.mono HB11.out.size)
                  have kC := cvd_any w12 ta Fa sa (HTA2.out w12 HB12.out) HTR.out.wf.ok (by have := HLA.out.1; omega) (fun q => by
                    have := segL_len HLA.out.2 (keysF q sa)
                    have h2 := keysF_len q sa
                    have h3 : (keysF q sa).length * 40 ≤ 40 * 40 := Nat.mul_le_mul_right 40 (by have := HLA.out.1; omega)
                    omega)
                  clear kS g12
                  go_wp2_with fail
                  refine kC.mono ?_
                  rintro ev w13 ⟨vc, rfl, outc, syc, oc, bc⟩
                  have HB13 : Hid (Below V.heap.size V w13) := HB12.out.trans (bc.mono HB12.out.size)
                  have HSYC := hide syc
                  have HOC := hide (Sgr.of oc)
                  have kD := cvd_any w13 tb F4 s4 (HTB2.out w13 HB13.out) HTB'.out.wf.ok (by have := HLB.out.1; omega) (fun q => by
                    have := segL_len HLB.out.2 (keysF q s4)
                    have h2 := keysF_len q s4
                    have h3 : (keysF q s4).length * 40 ≤ 40 * 40 := Nat.mul_le_mul_right 40 (by have := HLB.out.1; omega)
                    omega)
                  clear kC syc oc bc
                  go_wp2_with fail
                  refine kD.mono ?_
                  rintro ev w14 ⟨vd, rfl, outd, syd, od, bd⟩
                  obtain ⟨e1, _, _, _⟩ := HTR.out.told HTB'.out HSYC.out syd
                  have HB14 : Hid (Below V.heap.size V w14) := HB13.out.trans (bd.mono HB13.out.size)
                  rw [← e1, ← HE4.out, ← HE3.out] at od
                  have hpl : (segL sa (keysF (fun k => cov k outc) sa)).length ≤ 80000 := by
                    have := segL_len HLA.out.2 (keysF (fun k => cov k outc) sa)
                    have h2 := keysF_len (fun k => cov k outc) sa
                    have h3 : (keysF (fun k => cov k outc) sa).length * 40 ≤ 40 * 40 := Nat.mul_le_mul_right 40 (by have := HLA.out.1; omega)
                    omega
                  have kS := same_any w14 vc vd _ (HOC.out.up bd) (Sgr.of od) (by omega)
                  clear kD syd od bd e1 hpl
                  go_wp2_with fail
                  refine kS.mono ?_
                  rintro ev w15 ⟨rfl, g15⟩
                  have HEND : Hid (Below w.heap.size w w15) := by
                    apply hide
                    have h1 := HB2.out.trans (HMV.out.bel.mono HB2.out.size)
                    have h2 := h1.trans (HB14.out.mono h1.size)
                    exact h2.trans (g15.below.mono h2.size)
                  clear kS g15
                  go_wp2_with fail
                  go_ret
                  exact ⟨rfl, HEND.out⟩
      · have hg1z : (i : Int) < (n2 : Int) := by omega
        have hg2z : ¬ (i : Int) < 20 := by omega
        have HND : Hid l.Nodup := HTR.out.nodup
        have HFL : Hid (∀ g ∈ l, Few g) := HTR.out.few
        have hex20 : ex.length ≤ 20 := by omega
        obtain ⟨q, hq⟩ : ∃ q, q = A % n := ⟨_, rfl⟩
        have HQ := hide hq
        have HM0 : Hid (Mx w2 wr tb F s x11 ex (ex ++ (trn l q).take 0)) := by apply hide; rw [List.take_zero, List.append_nil]; exact HM.out
        clear hq hexl hi20 hin2 hkx
        go_upto_region 19 with fail
        clear hg1 hg1z
        try clear hg2 hg2z
        go_loopg [16] n (fun kx3 v16 wr => ∃ (k : Nat) (F3 : Nat → Prop) (s3 : List Es), v16 = .int .i64 (k : Int) ∧ k ≤ n ∧ n - k ≤ kx3 ∧ Hid (Mx w2 wr tb F3 s3 x11 ex (ex ++ (trn l q).take k)))
        case atStart => exact ⟨0, _, _, rfl, Nat.zero_le _, Nat.le_refl _, HM0⟩
        case round =>
          rename World => wq
          obtain ⟨k, F3, s3, rfl, hk, hkx3, HM3'⟩ := hrel
          by_cases hkn : k < n
          · have hkz : (k : Int) < (n : Int) := by omega
            obtain ⟨j, ix⟩ := Ix.ex (A := A) hkn (by omega) HQ.out
            have hjl : j < l.length := by have := HN.out; have := ix.jn; omega
            have hkt : k < (trn l q).length := by rw [trn_len]; have := HN.out; omega
            have hget : (trn l q)[k] = l[j] := trn_get' HN.out ix.qn hkn ix.je hjl hkt
            have htn := HM3'.out.tr.turn HND.out HFL.out HEX.out hkt
            rw [hget] at htn
            have hfew := HFL.out _ (List.getElem_mem hjl)
            obtain ⟨lb, lo, rfl, ha⟩ := HL3.out wq HM3'.out.bel j hjl
            obtain ⟨g, hg⟩ : ∃ g, g = l[j] := ⟨_, rfl⟩
            rw [← hg] at htn hfew ha
            obtain ⟨⟨g1, g2, g3⟩, g4, g5⟩ := g
            have hL60 : (ex ++ (trn l q).take k).length ≤ 60 := by rw [List.length_append, List.length_take]; omega
            have kA := add_any wq tb F3 s3 g1 g2 g3 g4 g5 HM3'.out.tl HM3'.out.tr.wf hfew.b3 (by have := HM3'.out.few.1; omega) (fun e he => by have := HM3'.out.few.2 e he; omega)
            obtain ⟨ad, had⟩ : ∃ ad, ad = addF s3 ((g1, g2, g3), g4, g5) := ⟨_, rfl⟩
            rw [← had] at kA htn
            obtain ⟨a1, a2⟩ := ad
            obtain ⟨h0, htr⟩ := htn
            simp only at h0 htr
            subst h0
            have HTR2 := hide htr
            have c0 := ha.c0
            have c1 := ha.c1
            have c2 := ha.c2
            have c3 := ha.c3
            have c4 := ha.c4
            simp only at c0 c1 c2 c3 c4
            have hjn := ix.jn
            have hjz : (j : Int) < (n : Int) := by omega
            have hj0 : ¬ (j : Int) < 0 := by omega
            have hnz : ((n : Int) == 0) = false := by simp; omega
            have hnz' : ¬ (n : Int) = 0 := by omega
            have HW2 : Hid (wrap64 ((k : Int) + 1) = (k : Int) + 1) := by apply hide; rw [← IntWalk.i64_left, IntKind.wrap_i64]; omega
            have hqn := ix.qn
            have hm1 : ∀ z : Int, z = (A : Int) → z % (n : Int) = (q : Int) := by
              rintro z rfl
              have e := ix.m1
              rw [Int.tmod_eq_emod_of_nonneg (Int.natCast_nonneg A)] at e
              exact e
            have hm2 : ∀ z : Int, z = (n : Int) - 1 - (k : Int) + (q : Int) → z % (n : Int) = (j : Int) := by
              rintro z rfl
              have e := ix.m2
              rw [Int.tmod_eq_emod_of_nonneg (by clear e; omega)] at e
              exact e
            have kAb := HKA.out wq
            clear ix ha hg htr had hget hjl hfew hL60
            go_wp2_with fail
            refine kAb.mono ?_
            rintro ev wx ⟨rfl, rfl⟩
            clear kAb
            go_wp2_with fail
            refine kA.mono ?_
            rintro ev w5 ⟨rfl, F', htw⟩
            have HM5 : Hid (Mx w2 w5 tb F' a2 x11 ex (ex ++ (trn l q).take (k + 1))) := HM3'.out.step htw HTR2.out
            clear kA htw c0 c1 c2 c3 c4
            go_wp2_with fail
            go_roundg (n - (k + 1))
            case measure => omega
            case rel => exact ⟨k + 1, F', a2, by first | (rw [HW2.out]; rfl) | rfl, hkn, Nat.le_refl _, HM5⟩
          · have hkz : ¬ (k : Int) < (n : Int) := by omega
            have hfull : ex ++ (trn l q).take k = ex ++ trn l q := by rw [List.take_of_length_le (by rw [trn_len]; have := HN.out; omega)]
            have HM4 : Hid (Mx w2 wq tb F3 s3 x11 ex (ex.drop 0 ++ trn l q)) := by apply hide; rw [List.drop_zero, ← hfull]; exact HM3'.out
            obtain ⟨xa, xc, hxv, hx1, hx2, -⟩ := (Sgr.of HM4.out.own).ex
            obtain ⟨m, hm⟩ : ∃ m, m = ex.length := ⟨_, rfl⟩
            rw [← hm] at hxv hx1 hex20
            have HMM := hide hm
            unfold maxLen at hx2
            clear hfull hm HM3'
            subst hxv
            go_upto_region 24 with fail
            go_loopg [17] m (fun kx4 v17 wr => ∃ (k4 : Nat) (F4 : Nat → Prop) (s4 : List Es), v17 = .int .i64 (k4 : Int) ∧ k4 ≤ m ∧ m - k4 ≤ kx4 ∧ Hid (Mx w2 wr tb F4 s4 (.slice xa m xc) ex (ex.drop k4 ++ trn l q)))
            case atStart => exact ⟨0, _, _, rfl, Nat.zero_le _, Nat.le_refl _, HM4⟩
            case round =>
              rename World => wz
              obtain ⟨k4, F4, s4, rfl, hk4, hkx4, HM4'⟩ := hrel
              by_cases hkm : k4 < m
              · have hkmz : (k4 : Int) < (m : Int) := by omega
                have hke : k4 < ex.length := by have := HMM.out; omega
                have hrm := HM4'.out.tr.rem hke
                have hfew : Few ex[k4] := HM4'.out.tr.few _ (by rw [List.drop_eq_getElem_cons hke]; exact List.mem_append.2 (.inl (List.mem_cons_self ..)))
                obtain ⟨eb, eo, ec, hev, ha⟩ := (Sgr.of HM4'.out.own).at k4 hke
                injection hev with hev1 hev2 hev3
                subst hev1
                clear hev2 hev3
                obtain ⟨g, hg⟩ : ∃ g, g = ex[k4] := ⟨_, rfl⟩
                rw [← hg] at hrm hfew ha
                obtain ⟨⟨g1, g2, g3⟩, g4, g5⟩ := g
                have hL60 : (ex.drop k4 ++ trn l q).length ≤ 60 := by rw [List.length_append, List.length_drop, trn_len]; have := HN.out; have := HMM.out; omega
                have kR := rem_any wz tb F4 s4 g1 g2 g3 g4 g5 HM4'.out.tl HM4'.out.tr.wf hfew.b3 (by have := HM4'.out.few.1; omega) (fun e he => by have := HM4'.out.few.2 e he; omega)
                obtain ⟨ad, had⟩ : ∃ ad, ad = remF s4 ((g1, g2, g3), g4, g5) := ⟨_, rfl⟩
                rw [← had] at kR hrm
                obtain ⟨a1, a2⟩ := ad
                obtain ⟨h0, htr⟩ := hrm
                simp only at h0 htr
                subst h0
                have HTR2 := hide htr
                have c0 := ha.c0
                have c1 := ha.c1
                have c2 := ha.c2
                have c3 := ha.c3
                have c4 := ha.c4
                simp only at c0 c1 c2 c3 c4
                have HW2 : Hid (wrap64 ((k4 : Int) + 1) = (k4 : Int) + 1) := by apply hide; rw [← IntWalk.i64_left, IntKind.wrap_i64]; omega
                clear ha hg htr had hke hfew hL60
                go_wp2_with fail
                refine kR.mono ?_
                rintro ev w5 ⟨rfl, F', htw⟩
                have HM5 : Hid (Mx w2 w5 tb F' a2 (.slice (some ⟨eb, eo, none⟩) m xc) ex (ex.drop (k4 + 1) ++ trn l q)) := HM4'.out.step htw HTR2.out
                clear kR htw c0 c1 c2 c3 c4
                go_wp2_with fail
                go_roundg (m - (k4 + 1))
                case measure => omega
                case rel => exact ⟨k4 + 1, F', a2, by first | (rw [HW2.out]; rfl) | rfl, hkm, Nat.le_refl _, HM5⟩
              · have hkmz : ¬ (k4 : Int) < (m : Int) := by omega
                have htr : TrS l s4 := by
                  have h1 := HM4'.out.tr
                  rw [List.drop_of_length_le (by have := HMM.out; omega), List.nil_append] at h1
                  exact ⟨h1.wf, h1.pm.trans (trn_perm l q), HTR.out.few⟩
                have HTB' := hide htr
                have hl40 : l.length ≤ 40 := by have := HN.out; omega
                have HL40 := hide hl40
                have HLA := hide (HTR.out.len hl40)
                have HLB := hide (htr.len hl40)
                obtain ⟨V, hV⟩ : ∃ V, V = wz.alloc (.cells #[.int .i64 0, .int .i64 1099511627776] 24) := ⟨_, rfl⟩
                obtain ⟨b18, hb18⟩ : ∃ b, b = wz.heap.size := ⟨_, rfl⟩
                have HX : Hid (BxA V b18 24 #[.int .i64 0, .int .i64 1099511627776]) := by apply hide; rw [hV, hb18]; exact BxA.new _ _ _
                have HGV : Hid (Grows wz V) := by apply hide; rw [hV]; exact Grows.alloc _ _
                have HMV : Hid (Mx w2 V tb F4 s4 (.slice xa m xc) ex (ex.drop k4 ++ trn l q)) := HM4'.out.up HGV.out.below
                have HTA2 : Hid (∀ w', Below V.heap.size V w' → Tl w' ta Fa sa) := fun w' hb => HTA.out w' (HMV.out.bel.trans (hb.mono HMV.out.bel.size))
                have HTB2 : Hid (∀ w', Below V.heap.size V w' → Tl w' tb F4 s4) := fun w' hb => HMV.out.tl.below hb
                have HVE := hide hV
                have HBE := hide hb18
                clear htr hV hb18 hl40
                go_upto_region 29 with fail
                have hSig0 : Below V.heap.size V V.drew := (Below.refl _ _).drew
                rw [← HVE.out, ← HBE.out]
                have hS00 : True := trivial
                try dsimp only
                refine wp_region_invF (β := Value × Value × Value × Value × Value × Value × Value × Value) (fun a0 xq => ((((((((a0.put (some 122) (xq.1)).put (some 123) (xq.2.1)).put (some 124) (xq.2.2.1)).put (some 125) (xq.2.2.2.1)).put (some 126) (xq.2.2.2.2.1)).put (some 127) (xq.2.2.2.2.2.1)).put (some 128) (xq.2.2.2.2.2.2.1)).put (some 19) (xq.2.2.2.2.2.2.2))) ?fr2901 (fun xq d w' => (Below V.heap.size V w') ∧ ((d 0 = true → (xq.1) = .pointer (some ⟨ta, 0, none⟩)) ∧ (d 1 = true → (xq.2.1) = .agg #[.int .i64 0, .int .i64 1099511627776]) ∧ (d 3 = true → (xq.2.2.2.1) = .pointer (some ⟨tb, 0, none⟩)) ∧ (d 4 = true → (xq.2.2.2.2.1) = .agg #[.int .i64 0, .int .i64 1099511627776])) ∧ ∃ j : Nat, j ≤ 4 ∧ (d 2 = decide (0 < j) ∧ d 5 = decide (1 < j) ∧ d 6 = decide (2 < j) ∧ d 7 = decide (3 < j)) ∧ ((j = 0 → True) ∧ (j = 1 → ∃ p, Pgr w' (xq.2.2.1) p ∧ LkS sa p) ∧ (j = 2 → ∃ p, Pgr w' (xq.2.2.1) p ∧ Pgr w' (xq.2.2.2.2.2.1) p ∧ p.length ≤ 1000) ∧ (j = 3 → (xq.2.2.2.2.2.2.1) = .bool true) ∧ (j = 4 → (xq.2.2.2.2.2.2.2) = .bool true))) ?lay2901 mixed (by kernel_rfl) ?h02901 ?hs2901 ?he2901
                case lay2901 =>
                  intro xq
                  simp only [Act.put, List.setIfInBounds_toArray, List.set_cons_zero, List.set_cons_succ]
                  rfl
                case h02901 =>
                  refine ⟨(undef, undef, undef, undef, undef, undef, undef, undef), rfl, ?sig2901, ⟨(fun h => by cases h), (fun h => by cases h), (fun h => by cases h), (fun h => by cases h)⟩, 0, Nat.zero_le _, ⟨rfl, rfl, rfl, rfl⟩, ?S02901, (fun h => by cases h), (fun h => by cases h), (fun h => by cases h), (fun h => by cases h)⟩
                  case sig2901 => exact hSig0
                  case S02901 => exact fun _ => hS00
                case hs2901 =>
                  refine ⟨?_, ?_, ?_, ?_, ?_, ?_, ?_, ?_, trivial⟩
                  · rintro d ⟨x122, x123, x124, x125, x126, x127, x128, x19⟩ w' hI hd hdp KQ hK
                    dsimp only at hI
                    obtain ⟨hS, ⟨f0, f1, f3, f4⟩, j, hj, ⟨dd2, dd5, dd6, dd7⟩, ⟨p0, p1, p2, p3, p4⟩⟩ := hI
                    have HF : Hid _ := And.intro hS (And.intro (And.intro f0 (And.intro f1 (And.intro f3 f4))) (And.intro hj (And.intro (And.intro dd2 (And.intro dd5 (And.intro dd6 dd7))) (And.intro p0 (And.intro p1 (And.intro p2 (And.intro p3 p4)))))))
                    clear hS f0 f1 f3 f4 hj dd2 dd5 dd6 dd7 p0 p1 p2 p3 p4 hdp hd
                    refine Opn.mk ?_
                    dsimp only
                    go_simp
                    obtain ⟨hS, ⟨f0, f1, f3, f4⟩, hj, ⟨dd2, dd5, dd6, dd7⟩, ⟨p0, p1, p2, p3, p4⟩⟩ := HF.out
                    exact hK.out (.pointer (some ⟨ta, 0, none⟩), x123, x124, x125, x126, x127, x128, x19) _ ⟨hS, ⟨(fun _ => rfl), (fun h => f1 (upd_ne h (by decide))), (fun h => f3 (upd_ne h (by decide))), (fun h => f4 (upd_ne h (by decide)))⟩, j, hj, ⟨((upd_no (by decide)).trans dd2), ((upd_no (by decide)).trans dd5), ((upd_no (by decide)).trans dd6), ((upd_no (by decide)).trans dd7)⟩, ⟨p0, p1, p2, p3, p4⟩⟩
                  · rintro d ⟨x122, x123, x124, x125, x126, x127, x128, x19⟩ w' hI hd hdp KQ hK
                    dsimp only at hI
                    obtain ⟨hS, ⟨f0, f1, f3, f4⟩, j, hj, ⟨dd2, dd5, dd6, dd7⟩, ⟨p0, p1, p2, p3, p4⟩⟩ := hI
                    have hx := HX.out.up hS
                    have c0 := hx.cell 0 _ rfl
                    have c1 := hx.cell 1 _ rfl
                    clear hx
                    have HF : Hid _ := And.intro hS (And.intro (And.intro f0 (And.intro f1 (And.intro f3 f4))) (And.intro hj (And.intro (And.intro dd2 (And.intro dd5 (And.intro dd6 dd7))) (And.intro p0 (And.intro p1 (And.intro p2 (And.intro p3 p4)))))))
                    clear hS f0 f1 f3 f4 hj dd2 dd5 dd6 dd7 p0 p1 p2 p3 p4 hdp hd
                    refine Opn.mk ?_
                    dsimp only
                    go_simp
                    obtain ⟨hS, ⟨f0, f1, f3, f4⟩, hj, ⟨dd2, dd5, dd6, dd7⟩, ⟨p0, p1, p2, p3, p4⟩⟩ := HF.out
                    exact hK.out (x122, .agg #[.int .i64 0, .int .i64 1099511627776], x124, x125, x126, x127, x128, x19) _ ⟨hS, ⟨(fun h => f0 (upd_ne h (by decide))), (fun _ => rfl), (fun h => f3 (upd_ne h (by decide))), (fun h => f4 (upd_ne h (by decide)))⟩, j, hj, ⟨((upd_no (by decide)).trans dd2), ((upd_no (by decide)).trans dd5), ((upd_no (by decide)).trans dd6), ((upd_no (by decide)).trans dd7)⟩, ⟨p0, p1, p2, p3, p4⟩⟩
                  · rintro d ⟨x122, x123, x124, x125, x126, x127, x128, x19⟩ w' hI hd hdp KQ hK
                    dsimp only at hI
                    obtain ⟨hS, ⟨f0, f1, f3, f4⟩, j, hj, ⟨dd2, dd5, dd6, dd7⟩, ⟨p0, p1, p2, p3, p4⟩⟩ := hI
                    obtain rfl := f0 (hdp 0 (by decide +kernel))
                    obtain rfl := f1 (hdp 1 (by decide +kernel))
                    obtain rfl := ph_zero dd2 hd
                    have s := p0 rfl
                    clear p0 p1 p2 p3 p4 hj
                    have kL := lookup_any w' ta Fa sa 0 1099511627776 (HTA2.out w' hS) HTR.out.wf (by have := HLA.out.1; omega) (fun e he => by have := HLA.out.2 e he; omega)
                    have HG : Hid _ := And.intro hS s
                    clear hS s
                    have HF : Hid _ := And.intro (And.intro f0 (And.intro f1 (And.intro f3 f4))) (And.intro dd2 (And.intro dd5 (And.intro dd6 dd7)))
                    clear f0 f1 f3 f4 dd2 dd5 dd6 dd7 hdp hd
                    refine Opn.mk ?_
                    dsimp only
                    go_simp
                    go_wp2_with (first | (go_at_call 11; with_reducible refine kL.mono ?_; rintro e5 w5 ⟨vq, rfl, out, sy, o5, b5⟩))
                    obtain ⟨hS, s⟩ := HG.out
                    obtain ⟨⟨f0, f1, f3, f4⟩, ⟨dd2, dd5, dd6, dd7⟩⟩ := HF.out
                    refine hK.out (.pointer (some ⟨ta, 0, none⟩), .agg #[.int .i64 0, .int .i64 1099511627776], vq, x125, x126, x127, x128, x19) _ ⟨?sg, ⟨(fun _ => rfl), (fun _ => rfl), (fun h => f3 (upd_ne h (by decide))), (fun h => f4 (upd_ne h (by decide)))⟩, 1, by decide, ⟨(by simp [upd]), ((upd_no (by decide)).trans (dd5.trans (by decide))), ((upd_no (by decide)).trans (dd6.trans (by decide))), ((upd_no (by decide)).trans (dd7.trans (by decide)))⟩, ⟨(fun h => absurd h (by decide)), (fun _ => ?new), (fun h => absurd h (by decide)), (fun h => absurd h (by decide)), (fun h => absurd h (by decide))⟩⟩
                    case sg => exact hS.trans (b5.mono hS.size)
                    case new =>
                      exact ⟨_, Pgr.of o5, ⟨⟨_, sy, rfl⟩⟩⟩
                  · rintro d ⟨x122, x123, x124, x125, x126, x127, x128, x19⟩ w' hI hd hdp KQ hK
                    dsimp only at hI
                    obtain ⟨hS, ⟨f0, f1, f3, f4⟩, j, hj, ⟨dd2, dd5, dd6, dd7⟩, ⟨p0, p1, p2, p3, p4⟩⟩ := hI
                    have HF : Hid _ := And.intro hS (And.intro (And.intro f0 (And.intro f1 (And.intro f3 f4))) (And.intro hj (And.intro (And.intro dd2 (And.intro dd5 (And.intro dd6 dd7))) (And.intro p0 (And.intro p1 (And.intro p2 (And.intro p3 p4)))))))
                    clear hS f0 f1 f3 f4 hj dd2 dd5 dd6 dd7 p0 p1 p2 p3 p4 hdp hd
                    refine Opn.mk ?_
                    dsimp only
                    go_simp
                    obtain ⟨hS, ⟨f0, f1, f3, f4⟩, hj, ⟨dd2, dd5, dd6, dd7⟩, ⟨p0, p1, p2, p3, p4⟩⟩ := HF.out
                    exact hK.out (x122, x123, x124, .pointer (some ⟨tb, 0, none⟩), x126, x127, x128, x19) _ ⟨hS, ⟨(fun h => f0 (upd_ne h (by decide))), (fun h => f1 (upd_ne h (by decide))), (fun _ => rfl), (fun h => f4 (upd_ne h (by decide)))⟩, j, hj, ⟨((upd_no (by decide)).trans dd2), ((upd_no (by decide)).trans dd5), ((upd_no (by decide)).trans dd6), ((upd_no (by decide)).trans dd7)⟩, ⟨p0, p1, p2, p3, p4⟩⟩
                  · rintro d ⟨x122, x123, x124, x125, x126, x127, x128, x19⟩ w' hI hd hdp KQ hK
                    dsimp only at hI
                    obtain ⟨hS, ⟨f0, f1, f3, f4⟩, j, hj, ⟨dd2, dd5, dd6, dd7⟩, ⟨p0, p1, p2, p3, p4⟩⟩ := hI
                    have hx := HX.out.up hS
                    have c0 := hx.cell 0 _ rfl
                    have c1 := hx.cell 1 _ rfl
                    clear hx
                    have HF : Hid _ := And.intro hS (And.intro (And.intro f0 (And.intro f1 (And.intro f3 f4))) (And.intro hj (And.intro (And.intro dd2 (And.intro dd5 (And.intro dd6 dd7))) (And.intro p0 (And.intro p1 (And.intro p2 (And.intro p3 p4)))))))
                    clear hS f0 f1 f3 f4 hj dd2 dd5 dd6 dd7 p0 p1 p2 p3 p4 hdp hd
                    refine Opn.mk ?_
                    dsimp only
                    go_simp
                    obtain ⟨hS, ⟨f0, f1, f3, f4⟩, hj, ⟨dd2, dd5, dd6, dd7⟩, ⟨p0, p1, p2, p3, p4⟩⟩ := HF.out
                    exact hK.out (x122, x123, x124, x125, .agg #[.int .i64 0, .int .i64 1099511627776], x127, x128, x19) _ ⟨hS, ⟨(fun h => f0 (upd_ne h (by decide))), (fun h => f1 (upd_ne h (by decide))), (fun h => f3 (upd_ne h (by decide))), (fun _ => rfl)⟩, j, hj, ⟨((upd_no (by decide)).trans dd2), ((upd_no (by decide)).trans dd5), ((upd_no (by decide)).trans dd6), ((upd_no (by decide)).trans dd7)⟩, ⟨p0, p1, p2, p3, p4⟩⟩
                  · rintro d ⟨x122, x123, x124, x125, x126, x127, x128, x19⟩ w' hI hd hdp KQ hK
                    dsimp only at hI
                    obtain ⟨hS, ⟨f0, f1, f3, f4⟩, j, hj, ⟨dd2, dd5, dd6, dd7⟩, ⟨p0, p1, p2, p3, p4⟩⟩ := hI
                    obtain rfl := f3 (hdp 3 (by decide +kernel))
                    obtain rfl := f4 (hdp 4 (by decide +kernel))
                    obtain rfl := ph_eq (k := 0) dd5 hd dd2 (hdp 2 (by decide +kernel))
                    have s := p1 rfl
                    clear p0 p1 p2 p3 p4 hj
                    have kL := lookup_any w' tb F4 s4 0 1099511627776 (HTB2.out w' hS) HTB'.out.wf (by have := HLB.out.1; omega) (fun e he => by have := HLB.out.2 e he; omega)
                    have HG : Hid _ := And.intro hS s
                    clear hS s
                    have HF : Hid _ := And.intro (And.intro f0 (And.intro f1 (And.intro f3 f4))) (And.intro dd2 (And.intro dd5 (And.intro dd6 dd7)))
                    clear f0 f1 f3 f4 dd2 dd5 dd6 dd7 hdp hd
                    refine Opn.mk ?_
                    dsimp only
                    go_simp
                    go_wp2_with (first | (go_at_call 11; with_reducible refine kL.mono ?_; rintro e5 w5 ⟨vq, rfl, out, sy, o5, b5⟩))
                    obtain ⟨hS, s⟩ := HG.out
                    obtain ⟨⟨f0, f1, f3, f4⟩, ⟨dd2, dd5, dd6, dd7⟩⟩ := HF.out
                    refine hK.out (x122, x123, x124, .pointer (some ⟨tb, 0, none⟩), .agg #[.int .i64 0, .int .i64 1099511627776], vq, x128, x19) _ ⟨?sg, ⟨(fun h => f0 (upd_ne h (by decide))), (fun h => f1 (upd_ne h (by decide))), (fun _ => rfl), (fun _ => rfl)⟩, 2, by decide, ⟨((upd_no (by decide)).trans (dd2.trans (by decide))), (by simp [upd]), ((upd_no (by decide)).trans (dd6.trans (by decide))), ((upd_no (by decide)).trans (dd7.trans (by decide)))⟩, ⟨(fun h => absurd h (by decide)), (fun h => absurd h (by decide)), (fun _ => ?new), (fun h => absurd h (by decide)), (fun h => absurd h (by decide))⟩⟩
                    case sg => exact hS.trans (b5.mono hS.size)
                    case new =>
                      obtain ⟨p, hp, lk⟩ := s
                      obtain ⟨out1, sy1, hpe⟩ := lk.ex
                      obtain ⟨e1, e2, _⟩ := HTR.out.told HTB'.out sy1 sy
                      refine ⟨p, hp.up b5, ?_, ?_⟩
                      · rw [hpe, e2]; exact Pgr.of o5
                      · rw [hpe]; exact lk_len HTR.out.wf HTR.out.pm HTR.out.few HL40.out (cut_of HTR.out.wf sy1)
                  · rintro d ⟨x122, x123, x124, x125, x126, x127, x128, x19⟩ w' hI hd hdp KQ hK
                    dsimp only at hI
                    obtain ⟨hS, ⟨f0, f1, f3, f4⟩, j, hj, ⟨dd2, dd5, dd6, dd7⟩, ⟨p0, p1, p2, p3, p4⟩⟩ := hI
                    obtain rfl := ph_eq (k := 1) dd6 hd dd5 (hdp 5 (by decide +kernel))
                    have s := p2 rfl
                    clear p0 p1 p2 p3 p4 hj
                    obtain ⟨p, hp, hp2, hpl⟩ := s
                    have kS := sameP_any w' x124 x127 p hp hp2 (by omega)
                    have HG : Hid _ := hS
                    clear hS hp hp2 hpl
                    have HF : Hid _ := And.intro (And.intro f0 (And.intro f1 (And.intro f3 f4))) (And.intro dd2 (And.intro dd5 (And.intro dd6 dd7)))
                    clear f0 f1 f3 f4 dd2 dd5 dd6 dd7 hdp hd
                    refine Opn.mk ?_
                    dsimp only
                    go_simp
                    go_wp2_with (first | (go_at_call 20; with_reducible refine kS.mono ?_; rintro e5 w5 ⟨rfl, g5⟩))
                    have hS := HG.out
                    obtain ⟨⟨f0, f1, f3, f4⟩, ⟨dd2, dd5, dd6, dd7⟩⟩ := HF.out
                    refine hK.out (x122, x123, x124, x125, x126, x127, .bool true, x19) _ ⟨?sg, ⟨(fun h => f0 (upd_ne h (by decide))), (fun h => f1 (upd_ne h (by decide))), (fun h => f3 (upd_ne h (by decide))), (fun h => f4 (upd_ne h (by decide)))⟩, 3, by decide, ⟨((upd_no (by decide)).trans (dd2.trans (by decide))), ((upd_no (by decide)).trans (dd5.trans (by decide))), (by simp [upd]), ((upd_no (by decide)).trans (dd7.trans (by decide)))⟩, ⟨(fun h => absurd h (by decide)), (fun h => absurd h (by decide)), (fun h => absurd h (by decide)), (fun _ => ?new), (fun h => absurd h (by decide))⟩⟩
                    case sg => exact hS.trans (g5.below.mono hS.size)
                    case new =>
                      rfl
                  · rintro d ⟨x122, x123, x124, x125, x126, x127, x128, x19⟩ w' hI hd hdp KQ hK
                    dsimp only at hI
                    obtain ⟨hS, ⟨f0, f1, f3, f4⟩, j, hj, ⟨dd2, dd5, dd6, dd7⟩, ⟨p0, p1, p2, p3, p4⟩⟩ := hI
                    obtain rfl := ph_eq (k := 2) dd7 hd dd6 (hdp 6 (by decide +kernel))
                    have s := p3 rfl
                    clear p0 p1 p2 p3 p4 hj
                    subst s
                    have HG : Hid _ := hS
                    clear hS
                    have HF : Hid _ := And.intro (And.intro f0 (And.intro f1 (And.intro f3 f4))) (And.intro dd2 (And.intro dd5 (And.intro dd6 dd7)))
                    clear f0 f1 f3 f4 dd2 dd5 dd6 dd7 hdp hd
                    refine Opn.mk ?_
                    dsimp only
                    go_simp
                    have hS := HG.out
                    obtain ⟨⟨f0, f1, f3, f4⟩, ⟨dd2, dd5, dd6, dd7⟩⟩ := HF.out
                    refine hK.out (x122, x123, x124, x125, x126, x127, .bool true, .bool true) _ ⟨?sg, ⟨(fun h => f0 (upd_ne h (by decide))), (fun h => f1 (upd_ne h (by decide))), (fun h => f3 (upd_ne h (by decide))), (fun h => f4 (upd_ne h (by decide)))⟩, 4, by decide, ⟨((upd_no (by decide)).trans (dd2.trans (by decide))), ((upd_no (by decide)).trans (dd5.trans (by decide))), ((upd_no (by decide)).trans (dd6.trans (by decide))), (by simp [upd])⟩, ⟨(fun h => absurd h (by decide)), (fun h => absurd h (by decide)), (fun h => absurd h (by decide)), (fun h => absurd h (by decide)), (fun _ => ?new)⟩⟩
                    case sg => exact hS
                    case new =>
                      rfl
                case he2901 =>
                  rintro d ⟨x122, x123, x124, x125, x126, x127, x128, x19⟩ w' hall hI
                  dsimp only at hI
                  obtain ⟨hS, ⟨f0, f1, f3, f4⟩, j, hj, ⟨dd2, dd5, dd6, dd7⟩, ⟨p0, p1, p2, p3, p4⟩⟩ := hI
                  obtain rfl := ph_end (k := 3) hj dd7 (hall 7 (by decide))
                  have s := p4 rfl

                  clear hall hj f0 f1 f3 f4 dd2 dd5 dd6 dd7 p0 p1 p2 p3 p4
                  subst s
                  have HSV : Hid (Below V.heap.size V w') := hS
                  have tla := HTA2.out w' hS
                  have kV := vis_any w' ta Fa sa tla HTR.out.wf (by have := HLA.out.1; omega) (fun e he => by have := HLA.out.2 e he; omega)
                  clear hS tla
                  go_wp2_with fail
                  refine kV.mono ?_
                  rintro ev w10 ⟨va, outa, ka, rfl, sya, har, ham, hal, oa, ba⟩
                  have HB10 : Hid (Below V.heap.size V w10) := HSV.out.trans (ba.mono HSV.out.size)
                  have HSYA := hide sya
                  have HKA2 := hide (And.intro har (And.intro ham hal))
                  have HOA := hide (Sgr.of oa)
                  have kV2 := vis_any w10 tb F4 s4 (HTB2.out w10 HB10.out) HTB'.out.wf (by have := HLB.out.1; omega) (fun e he => by have := HLB.out.2 e he; omega)
                  clear kV sya har ham hal oa ba
                  go_wp2_with fail
                  refine kV2.mono ?_
                  rintro ev w11 ⟨vb, outb, kb, rfl, syb, hbr, hbm, hbl, ob, bb⟩
                  have HB11 : Hid (Below V.heap.size V w11) := HB10.out.trans (bb.mono HB10.out.size)
                  obtain ⟨e1, _, e3, e4⟩ := HTR.out.told HTB'.out HSYA.out syb
                  have hk : kb = ka := stn_eq hbr HKA2.out.1 fun x => by rw [hbm, HKA2.out.2.1, e1]
                  rw [hk, ← e3 ka] at ob
                  have hpl : (segL sa ka).length ≤ 80000 := by
                    have := segL_len HLA.out.2 ka
                    have h3 : ka.length * 40 ≤ 2000 * 40 := Nat.mul_le_mul_right 40 HKA2.out.2.2
                    omega
                  have kS := same_any w11 va vb (segL sa ka) (HOA.out.up bb) (Sgr.of ob) (by omega)
                  have HE3 := hide e3
                  have HE4 := hide e4
                  clear kV2 syb hbr hbm hbl ob bb e1 e3 e4 hk hpl
                  go_wp2_with fail
                  refine kS.mono ?_
                  rintro ev w12 ⟨rfl, g12⟩
                  have HB12 : Hid (Below V.heap.size V w12) := HB11.out.trans (g12.below.mono HB11.out.size)
                  have kC := cvd_any w12 ta Fa sa (HTA2.out w12 HB12.out) HTR.out.wf.ok (by have := HLA.out.1; omega) (fun q => by
                    have := segL_len HLA.out.2 (keysF q sa)
                    have h2 := keysF_len q sa
                    have h3 : (keysF q sa).length * 40 ≤ 40 * 40 := Nat.mul_le_mul_right 40 (by have := HLA.out.1; omega)
                    omega)
                  clear kS g12
                  go_wp2_with fail
                  refine kC.mono ?_
                  rintro ev w13 ⟨vc, rfl, outc, syc, oc, bc⟩
                  have HB13 : Hid (Below V.heap.size V w13) := HB12.out.trans (bc.mono HB12.out.size)
                  have HSYC := hide syc
                  have HOC := hide (Sgr.of oc)
                  have kD := cvd_any w13 tb F4 s4 (HTB2.out w13 HB13.out) HTB'.out.wf.ok (by have := HLB.out.1; omega) (fun q => by
                    have := segL_len HLB.out.2 (keysF q s4)
                    have h2 := keysF_len q s4
                    have h3 : (keysF q s4).length * 40 ≤ 40 * 40 := Nat.mul_le_mul_right 40 (by have := HLB.out.1; omega)
                    omega)
                  clear kC syc oc bc
                  go_wp2_with fail
                  refine kD.mono ?_
                  rintro ev w14 ⟨vd, rfl, outd, syd, od, bd⟩
                  obtain ⟨e1, _, _, _⟩ := HTR.out.told HTB'.out HSYC.out syd
                  have HB14 : Hid (Below V.heap.size V w14) := HB13.out.trans (bd.mono HB13.out.size)
                  rw [← e1, ← HE4.out, ← HE3.out] at od
                  have hpl : (segL sa (keysF (fun k => cov k outc) sa)).length ≤ 80000 := by
                    have := segL_len HLA.out.2 (keysF (fun k => cov k outc) sa)
                    have h2 := keysF_len (fun k => cov k outc) sa
                    have h3 : (keysF (fun k => cov k outc) sa).length * 40 ≤ 40 * 40 := Nat.mul_le_mul_right 40 (by have := HLA.out.1; omega)
                    omega
                  have kS := same_any w14 vc vd _ (HOC.out.up bd) (Sgr.of od) (by omega)
                  clear kD syd od bd e1 hpl
                  go_wp2_with fail
                  refine kS.mono ?_
                  rintro ev w15 ⟨rfl, g15⟩
                  have HEND : Hid (Below w.heap.size w w15) := by
                    apply hide
                    have h1 := HB2.out.trans (HMV.out.bel.mono HB2.out.size)
                    have h2 := h1.trans (HB14.out.mono h1.size)
                    exact h2.trans (g15.below.mono h2.size)
                  clear kS g15
                  go_wp2_with fail
                  go_ret
                  exact ⟨rfl, HEND.out⟩
end Go.Proofs.Ytgbmigfamefenaa
