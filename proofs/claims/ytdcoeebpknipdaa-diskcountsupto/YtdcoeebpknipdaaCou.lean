/- The power goes off at just the operation that is named. -/
import Derived.Test.YtdcoeebpknipdaaCoM
import Derived.Shelf.SlSortCmp.QuietGrown
import Derived.BigQuiet
namespace Go.Proofs.Ytdcoeebpknipdaa
open Go.RowKit Go.Maps Go.Sort
set_option linter.unusedVariables false

theorem bk_new (w : World) : Bk (w.alloc (.cells #[.slice none 0 0, .slice none 0 0, .slice none 0 0] 41)) w.heap.size (fun i => i = w.heap.size) [] := ⟨_, _, _, BxA.new _ _ _, RowL.nil _ _ _, RowL.nil _ _ _, RowL.nil _ _ _, (fun r hr => by cases hr), rfl, (fun r hr => by cases hr), (fun r hr => by cases hr), (fun r hr => by cases hr), by simp, fun i hi => by rw [hi]; simp⟩
/-- Both disks with their books. -/
structure Cp (w0 w : World) (b wh c d m p a : Nat) (sw sd : St) : Prop where
  ex : ∃ Eb Gb Fw Ec Gc Fd, Pr w0 w b wh m Eb sw Gb Fw ∧ Pr w0 w c d m Ec sd Gc Fd ∧ (∀ i, Gc i ∨ Fd i → ¬ (Gb i ∨ Fw i))
  bel : Below w0.heap.size w0 w
  fs : sw.fs = sd.fs
  ow : sw.ops = p
  od : sd.ops = p
  pm : p ≤ m
  sw' : sw.set = false
  sd' : sd.set = true
  op : sd.op = (a : Int)
theorem Cp.hits {w0 w : World} {b wh c d m p a : Nat} {sw sd : St} (h : Cp w0 w b wh c d m p a sw sd) : hit sd = decide (p = a) := by
  unfold hit
  rw [h.sd', h.od, h.op, Bool.true_and]
  by_cases e : p = a
  · rw [decide_eq_true e, e]; simp
  · rw [decide_eq_false e]; simp; omega
theorem cp_start (w w3 : World) (d wh a : Nat) (part : Int) (h3 : LD w w3 d (fun i => i = d) 0 st0) (hw : Dk w3 wh (fun i => i = wh) 0 st0) (hle : w.heap.size ≤ wh) (hlt : d < wh) :
    Dk ((w3.alloc (.cells #[.slice none 0 0, .slice none 0 0, .slice none 0 0] 41)).alloc (.cells #[.slice none 0 0, .slice none 0 0, .slice none 0 0] 41)) d (fun i => i = d) 0 st0 ∧ ∀ w4, Dk w4 d (fun i => i = d) 0 { st0 with set := true, op := (a : Int), part := part } → Fr (fun i => i = d) ((w3.alloc (.cells #[.slice none 0 0, .slice none 0 0, .slice none 0 0] 41)).alloc (.cells #[.slice none 0 0, .slice none 0 0, .slice none 0 0] 41)) w4 → Cp w w4 w3.heap.size wh (w3.heap.size + 1) d 0 0 a st0 { st0 with set := true, op := (a : Int), part := part } := by
  have hwl := hw.lt wh rfl
  have hdl := h3.dk.lt d rfl
  have b1 : Below w3.heap.size w3 (w3.alloc (.cells #[.slice none 0 0, .slice none 0 0, .slice none 0 0] 41)) := (Below.refl _ _).alloc (Nat.le_refl _) _
  have hs : (w3.alloc (.cells #[.slice none 0 0, .slice none 0 0, .slice none 0 0] 41)).heap.size = w3.heap.size + 1 := by simp
  have b2 : Below (w3.alloc (.cells #[.slice none 0 0, .slice none 0 0, .slice none 0 0] 41)).heap.size (w3.alloc (.cells #[.slice none 0 0, .slice none 0 0, .slice none 0 0] 41)) ((w3.alloc (.cells #[.slice none 0 0, .slice none 0 0, .slice none 0 0] 41)).alloc (.cells #[.slice none 0 0, .slice none 0 0, .slice none 0 0] 41)) := (Below.refl _ _).alloc (Nat.le_refl _) _
  have b12 : Below w3.heap.size w3 ((w3.alloc (.cells #[.slice none 0 0, .slice none 0 0, .slice none 0 0] 41)).alloc (.cells #[.slice none 0 0, .slice none 0 0, .slice none 0 0] 41)) := b1.trans (b2.mono (by omega))
  have bw := h3.bel
  have hd0 := h3.F0 d rfl
  refine ⟨h3.dk.below b12, fun w4 d4 f4 => ?_⟩
  have hB1 : Bk ((w3.alloc (.cells #[.slice none 0 0, .slice none 0 0, .slice none 0 0] 41)).alloc (.cells #[.slice none 0 0, .slice none 0 0, .slice none 0 0] 41)) w3.heap.size (fun i => i = w3.heap.size) [] := (bk_new w3).below b2
  have hB2 : Bk ((w3.alloc (.cells #[.slice none 0 0, .slice none 0 0, .slice none 0 0] 41)).alloc (.cells #[.slice none 0 0, .slice none 0 0, .slice none 0 0] 41)) (w3.heap.size + 1) (fun i => i = w3.heap.size + 1) [] := by
    have := bk_new (w3.alloc (.cells #[.slice none 0 0, .slice none 0 0, .slice none 0 0] 41))
    rw [hs] at this
    exact this
  have hsz := bw.size
  have P1 : Pr w w4 w3.heap.size wh 0 [] st0 (fun i => i = w3.heap.size) (fun i => i = wh) := by
    refine ⟨hB1.other f4 fun i h1 h2 => ?_, ?_, fun i h1 h2 => ?_, fun i h1 => ?_, fun i h1 => ?_, List.Perm.refl _, ⟨List.Pairwise.nil, fun _ h => by cases h⟩, rfl⟩
    · omega
    · simpa using (hw.below b12).other f4 fun i h1 h2 => by omega
    · omega
    · omega
    · omega
  have P2 : Pr w w4 (w3.heap.size + 1) d 0 [] { st0 with set := true, op := (a : Int), part := part } (fun i => i = w3.heap.size + 1) (fun i => i = d) := by
    refine ⟨hB2.other f4 fun i h1 h2 => ?_, ?_, fun i h1 h2 => ?_, fun i h1 => ?_, fun i h1 => ?_, List.Perm.refl _, ⟨List.Pairwise.nil, fun _ h => by cases h⟩, rfl⟩
    · omega
    · simpa using d4
    · omega
    · omega
    · omega
  refine ⟨⟨[], _, _, [], _, _, P1, P2, fun i h1 h2 => ?_⟩, ?_, rfl, rfl, rfl, Nat.le_refl _, rfl, rfl, rfl⟩
  · omega
  · have q := bw.trans (b12.mono hsz)
    exact q.trans (f4.below q.size fun i hi => by rw [hi]; exact hd0)
set_option maxRecDepth 100000 in
set_option maxHeartbeats 6400000 in
theorem diskCounts_walk (w : World) (v : Value) (ol : List OpM) (h : OpR w v ol) (at' : Int) (ha1 : -9223372036854775808 ≤ at') (ha2 : at' ≤ 9223372036854775807) (part : Int) (hp1 : -9223372036854775808 ≤ part) (hp2 : part ≤ 9223372036854775807) : Calls Try.prog 7 #[v, .int .i64 at', .int .i64 part] w fun e w' => e = .returned (.bool true) ∧ Below w.heap.size w w' := by
  have HOK : Hid (∀ o ∈ ol, o.Ok w) := h.ok
  obtain ⟨va, vc, rfl, hvc1, hvc2, hcs⟩ := h.ex
  obtain ⟨n, hn⟩ : ∃ n, n = ol.length := ⟨_, rfl⟩
  rw [← hn] at hvc1
  rw [← hn]
  have HCS : Hid (0 < ol.length → ∃ b off, va = some ⟨b, off, none⟩ ∧ ∀ i (hi : i < ol.length) c u, (ol[i]).cs[c]? = some u → w.cell? ⟨b, off + (i * 5 + c), none⟩ = some u) := hcs
  have HN : Hid (n = ol.length) := hn
  unfold maxLen at hvc2
  obtain ⟨a, ha⟩ : ∃ a, a = absN at' % 60 := ⟨_, rfl⟩
  have hrem : (absN at' : Int) % 60 = (a : Int) := by omega
  have ha60 : a < 60 := by omega
  have kAb := fun w1 => abs_any w1 at' ha1 ha2
  clear h hn hcs ha
  go_enter Try.func7, Try.ntmps7
  go_wp2_with fail
  refine (awake_any w).mono ?_
  rintro e w1 ⟨rfl, b1⟩
  have kN := new_ld w w1 b1
  have kA := kAb w1
  clear b1 kAb
  go_wp2_with fail
  refine kA.mono ?_
  rintro e w1' ⟨rfl, rfl⟩
  clear kA
  go_wp2_with fail
  refine kN.mono ?_
  rintro e w2 ⟨rfl, h2⟩
  obtain ⟨d, hd⟩ : ∃ d, d = w1'.heap.size := ⟨_, rfl⟩
  rw [← hd] at h2
  rw [← hd]
  have H2 : Hid (LD w w2 d (fun i => i = d) 0 st0) := h2
  have kN2 := new_any w2
  clear h2 hd kN
  go_wp2_with fail
  refine kN2.mono ?_
  rintro e w3 ⟨rfl, h3, b3⟩
  obtain ⟨wh, hwh⟩ : ∃ x, x = w2.heap.size := ⟨_, rfl⟩
  rw [← hwh] at h3
  rw [← hwh]
  have hdw : d < wh := by rw [hwh]; exact H2.out.dk.lt d rfl
  have HDW : Hid (d < wh ∧ wh < w3.heap.size) := ⟨hdw, h3.lt wh rfl⟩
  have H3 : Hid (LD w w3 d (fun i => i = d) 0 st0) := H2.out.below b3
  have HW3 : Hid (Dk w3 wh (fun i => i = wh) 0 st0 ∧ w.heap.size ≤ wh) := ⟨h3, by rw [hwh]; exact H2.out.bel.size⟩
  clear kN2 h3 b3 hwh H2 hdw
  go_wp2_with fail
  obtain ⟨dX, HST⟩ := cp_start w w3 d wh a part H3.out HW3.out.1 HW3.out.2 HDW.out.1
  have kC := cutAt_any _ d 0 _ st0 (a : Int) part dX
  have HST' : Hid _ := HST
  clear dX HST H3 HW3
  refine kC.mono ?_
  rintro e w4 ⟨rfl, d4, f4⟩
  have HP0 : Hid (Cp w w4 w3.heap.size wh (w3.heap.size + 1) d 0 0 a st0 { st0 with set := true, op := (a : Int), part := part }) := HST'.out w4 d4 f4
  obtain ⟨bb, hbb⟩ : ∃ b, b = w3.heap.size := ⟨_, rfl⟩
  obtain ⟨bc, hbc⟩ : ∃ b, b = w3.heap.size + 1 := ⟨_, rfl⟩
  rw [← hbc, ← hbb] at HP0
  rw [← hbc, ← hbb]
  clear hbb hbc HST' kC d4 f4 HDW
  go_wp2_with fail
  go_loopg [12, 13, 14, 15, 16] n (fun kx v12 _ _ _ _ wr => ∃ (i p : Nat) (sw sd : St), v12 = .int .i64 (i : Int) ∧ i ≤ n ∧ i ≤ 80 ∧ n - i ≤ kx ∧ Hid (Cp w wr bb wh bc d i p a sw sd))
  case atStart => exact ⟨0, 0, _, _, rfl, Nat.zero_le _, Nat.zero_le _, Nat.le_refl _, HP0⟩
  case round =>
    obtain ⟨i, p, sw, sd, rfl, hi, hiL, hkx, HP⟩ := hrel
    clear HP0
    obtain ⟨Eb, Gb, Fw, Ec, Gc, Fd, hPb, hPd, hdis⟩ := HP.out.ex
    have kO1 := ops_any wr d _ Fd sd hPd.dk
    rw [HP.out.od] at kO1
    have kO2 := ops_any wr wh _ Fw sw hPb.dk
    rw [HP.out.ow] at kO2
    have kF1 := off_any wr d _ Fd sd hPd.dk
    rw [hPd.off] at kF1
    have HPB : Hid (Pr w wr bb wh i Eb sw Gb Fw) := hPb
    have HPD : Hid (Pr w wr bc d i Ec sd Gc Fd) := hPd
    have HDIS : Hid (∀ i, Gc i ∨ Fd i → ¬ (Gb i ∨ Fw i)) := hdis
    have hpi : p ≤ i := HP.out.pm
    clear hPb hPd hdis
    by_cases hlt : i < n ∧ i < 80
    · have hltz : (i : Int) < (n : Int) := by omega
      have hLz : (i : Int) < 80 := by omega
      have hil : i < ol.length := by have := HN.out; omega
      obtain ⟨vb, vo, rfl, hcs⟩ := HCS.out (by omega)
      have hok := HOK.out _ (List.getElem_mem hil)
      have HCL : Hid (∀ wx, Below w.heap.size w wx → ∀ c u, (ol[i]).cs[c]? = some u → wx.cell? ⟨vb, vo + i * 5 + c, none⟩ = some u) := fun wx hb c u hu => by
        have h0 := hcs i hil c u hu
        rw [Nat.add_assoc]
        exact (hb.cell (World.block_lt_of_cell? _ _ h0)).trans h0
      obtain ⟨o, ho⟩ : ∃ o, o = ol[i] := ⟨_, rfl⟩
      rw [← ho] at hok HCL
      have HOKo : Hid (o.Ok w) := hok
      have hcell := HCL.out wr HP.out.bel
      have c0 := hcell 0 _ rfl
      have c1 := hcell 1 _ rfl
      have c2 := hcell 2 _ rfl
      have c3 := hcell 3 _ rfl
      have c4 := hcell 4 _ rfl
      simp only [Nat.add_zero] at c0
      obtain ⟨k, hk⟩ : ∃ k, k = absN o.K % 6 := ⟨_, rfl⟩
      obtain ⟨nm, hnm⟩ : ∃ nm, nm = nmK o.A.length := ⟨_, rfl⟩
      obtain ⟨t, ht⟩ : ∃ t, t = nmK o.B.length := ⟨_, rfl⟩
      have hit0 := hit_none HP.out.sw'
      have HH0 : Hid (hit sw = false) := hit0
      have kB := note_pr w wr bb wh i Eb sw Gb Fw o HPB.out HP.out.bel (by omega) (by rw [HP.out.ow]; exact hpi) hok (by rw [hit0, Bool.and_false])
      rw [← hk, ← hnm, ← ht] at kB
      have HW1 : Hid (wrap64 ((i : Int) + 1) = (i : Int) + 1) := by apply hide; rw [← IntWalk.i64_left, IntKind.wrap_i64]; omega
      have HNM : Hid (isNm nm = true ∧ isNm t = true) := by rw [hnm, ht]; exact ⟨(nmK_facts _).1, (nmK_facts _).1⟩
      have HKN : Hid (k = absN o.K % 6 ∧ nm = nmK o.A.length ∧ t = nmK o.B.length) := ⟨hk, hnm, ht⟩
      have HIL : Hid (i < 100) := by apply hide; omega
      have hcnt : cnt k nm sw = cnt k nm sd := by unfold cnt; rw [HP.out.fs]
      have HCN : Hid _ := hcnt
      clear hcs hcell ho hok hil hk hnm ht hit0 hcnt
      go_wp2_with fail
      refine kO1.mono ?_
      rintro e wr1 ⟨rfl, rfl⟩
      clear kO1
      go_wp2_with fail
      refine kO2.mono ?_
      rintro e wr2 ⟨rfl, rfl⟩
      clear kO2
      go_wp2_with fail
      refine kF1.mono ?_
      rintro e wr3 ⟨rfl, rfl⟩
      clear kF1
      go_wp2_with fail
      refine kB.mono ?_
      rintro e w5 ⟨rfl, ⟨E5, G5, F5, p5, hG5⟩, f5⟩
      have hPD5 : Pr w w5 bc d i Ec sd Gc Fd := HPD.out.other f5 HDIS.out
      have bel5 : Below w.heap.size w w5 := HP.out.bel.trans (f5.below HP.out.bel.size fun j hj => hj.elim (HPB.out.g0 j) (HPB.out.f0 j))
      have hdis5 : ∀ j, Gc j ∨ Fd j → ¬ (G5 j ∨ F5 j) := fun j h1 h2 => by
        rcases hG5 j h2 with h | h
        · exact HDIS.out j h1 h
        · have : j < wr3.heap.size := h1.elim (HPD.out.bk.lt j) (HPD.out.dk.lt j)
          omega
      obtain ⟨sw5, hsw5⟩ : ∃ x, x = (nS k nm t o.bs sw).2 := ⟨_, rfl⟩
      rw [← hsw5] at p5
      have kO3 := ops_any w5 wh _ F5 sw5 p5.dk
      have HP5 : Hid (Pr w w5 bb wh (i + 1) E5 sw5 G5 F5) := p5
      have HD5 : Hid (Pr w w5 bc d i Ec sd Gc Fd) := hPD5
      have HB5 : Hid (Below w.heap.size w w5) := bel5
      have HS5 : Hid (∀ j, Gc j ∨ Fd j → ¬ (G5 j ∨ F5 j)) := hdis5
      have HE5 : Hid (sw5 = (nS k nm t o.bs sw).2) := hsw5
      have hcell := HCL.out w5 bel5
      have e0 := hcell 0 _ rfl
      have e1 := hcell 1 _ rfl
      have e2 := hcell 2 _ rfl
      have e3 := hcell 3 _ rfl
      have e4 := hcell 4 _ rfl
      simp only [Nat.add_zero] at e0
      clear kB p5 f5 hPD5 bel5 hdis5 hG5 hsw5 hcell c0 c1 c2 c3 c4
      by_cases hx : (cnt k nm sd && hit sd) = true
      · have hx' := hx
        rw [Bool.and_eq_true, HP.out.hits, decide_eq_true_eq] at hx'
        obtain ⟨hc, hpa⟩ := hx'
        subst hpa
        have h5 : sw5.ops = p + 1 := by
          rw [HE5.out, nS_miss HPB.out.off HNM.out.1 HNM.out.2 (by have := HPB.out.nms.few; omega) (HCN.out.trans hc) HH0.out]
          show sw.ops + 1 = _
          rw [HP.out.ow]
        rw [h5] at kO3
        have kD := note_hit w w5 bc d i Ec sd Gc Fd o HD5.out HB5.out HIL.out (by rw [HP.out.od]; exact hpi) HOKo.out (by rw [← HKN.out.1, ← HKN.out.2.1]; exact hx)
        rw [HP.out.od] at kD
        have hgt : (p : Int) < ((p + 1 : Nat) : Int) := by omega
        clear hx hc h5
        go_wp2_with fail
        refine kO3.mono ?_
        rintro e w5' ⟨rfl, rfl⟩
        clear kO3
        go_wp2_with fail
        refine kD.mono ?_
        rintro e w6 ⟨rfl, s6, ⟨⟨F6, d6⟩, f6⟩, of6, op6⟩
        have kF := off_any w6 d _ F6 s6 d6
        have kO := ops_any w6 d _ F6 s6 d6
        rw [of6] at kF
        rw [op6] at kO
        have HB6 : Hid (Below w.heap.size w w6) := HB5.out.trans (f6.below HB5.out.size fun j hj => hj.elim (HD5.out.g0 j) (HD5.out.f0 j))
        clear kD d6 f6 of6 op6
        have hw1 : wrap64 ((p : Int) + 1) = ((p + 1 : Nat) : Int) := by rw [← IntWalk.i64_left, IntKind.wrap_i64]; omega
        go_wp2_with fail
        refine kF.mono ?_
        rintro e w6a ⟨rfl, rfl⟩
        clear kF
        go_wp2_with fail
        refine kO.mono ?_
        rintro e w6b ⟨rfl, rfl⟩
        clear kO
        go_wp2_with fail
        go_ret
        exact ⟨by first | rfl | simp, HB6.out⟩
      · have hxf : (cnt k nm sd && hit sd) = false := by simpa using hx
        have hbm := both_miss (b := o.bs) HP.out.fs (HP.out.ow.trans HP.out.od.symm) HPB.out.nms HPB.out.off HPD.out.off HNM.out.1 HNM.out.2 HH0.out hxf
        have kD := note_pr w w5 bc d i Ec sd Gc Fd o HD5.out HB5.out HIL.out (by rw [HP.out.od]; exact hpi) HOKo.out (by rw [← HKN.out.1, ← HKN.out.2.1]; exact hxf)
        rw [← HKN.out.1, ← HKN.out.2.1, ← HKN.out.2.2] at kD
        rw [← HE5.out] at hbm
        obtain ⟨p5, hp5⟩ : ∃ q, q = sw5.ops := ⟨_, rfl⟩
        rw [← hp5] at kO3
        have HCP : Hid (∀ w6, Nx w w5 w6 bc d (i + 1) (nS k nm t o.bs sd).2 Gc Fd → Cp w w6 bb wh bc d (i + 1) p5 a sw5 (nS k nm t o.bs sd).2 ∧ Below w.heap.size w w6) := fun w6 hx6 => by
          obtain ⟨⟨E6, G6, F6, p6, hG6⟩, f6⟩ := hx6
          have hb6 := HB5.out.trans (f6.below HB5.out.size fun j hj => hj.elim (HD5.out.g0 j) (HD5.out.f0 j))
          have hle : sw5.ops ≤ p + 1 := by rw [hbm.2.2.2.2.2, HP.out.ow]; split <;> omega
          refine ⟨⟨⟨E5, G5, F5, E6, G6, F6, HP5.out.other f6 fun j h1 h2 => HS5.out j h2 h1, p6, fun j h1 h2 => ?_⟩, hb6, hbm.1, hp5.symm, (hbm.2.1.symm.trans hp5.symm), by omega, hbm.2.2.1.trans HP.out.sw', hbm.2.2.2.1.trans HP.out.sd', hbm.2.2.2.2.1.trans HP.out.op⟩, hb6⟩
          rcases hG6 j h1 with h | h
          · exact HS5.out j h h2
          · have : j < w5.heap.size := h2.elim (HP5.out.bk.lt j) (HP5.out.dk.lt j)
            omega
        cases hc : cnt k nm sd with
        | false =>
          have h5 : p5 = p := by rw [hp5, hbm.2.2.2.2.2, HCN.out, hc, HP.out.ow]; rfl
          subst h5
          have hgt : ¬ (p5 : Int) < (p5 : Int) := by omega
          clear hx hxf hbm hp5 hc
          go_wp2_with fail
          refine kO3.mono ?_
          rintro e w5' ⟨rfl, rfl⟩
          clear kO3
          go_wp2_with fail
          refine kD.mono ?_
          rintro e w6 ⟨rfl, n6⟩
          have H6 : Hid _ := HCP.out w6 n6
          clear kD n6 HCP
          go_wp2_with fail
          go_roundg (n - (i + 1))
          case measure => exact Nat.lt_of_lt_of_le (Nat.sub_lt_sub_left hlt.1 (Nat.lt_succ_self i)) hkx
          case rel => exact ⟨i + 1, _, _, _, by first | (rw [HW1.out]; rfl) | rfl, hlt.1, hlt.2, Nat.le_refl _, H6.out.1⟩
        | true =>
          have h5 : p5 = p + 1 := by rw [hp5, hbm.2.2.2.2.2, HCN.out, hc, HP.out.ow]; rfl
          subst h5
          rw [hc, Bool.true_and, HP.out.hits, decide_eq_false_iff_not] at hxf
          have hgt : (p : Int) < ((p + 1 : Nat) : Int) := by omega
          have hne : ¬ (p : Int) = (a : Int) := by omega
          clear hx hxf hbm hp5 hc
          go_wp2_with fail
          refine kO3.mono ?_
          rintro e w5' ⟨rfl, rfl⟩
          clear kO3
          go_wp2_with fail
          refine kD.mono ?_
          rintro e w6 ⟨rfl, n6⟩
          have H6 : Hid _ := HCP.out w6 n6
          clear kD n6 HCP
          go_wp2_with fail
          go_roundg (n - (i + 1))
          case measure => exact Nat.lt_of_lt_of_le (Nat.sub_lt_sub_left hlt.1 (Nat.lt_succ_self i)) hkx
          case rel => exact ⟨i + 1, _, _, _, by first | (rw [HW1.out]; rfl) | rfl, hlt.1, hlt.2, Nat.le_refl _, H6.out.1⟩
    · have hcas : ((i : Int) < (n : Int) ∧ ¬ (i : Int) < 80) ∨ ¬ (i : Int) < (n : Int) := by omega
      rcases hcas with ⟨hA, hB'⟩ | hA
      all_goals
        go_wp2_with fail
        refine kF1.mono ?_
        rintro e wr1 ⟨rfl, rfl⟩
        go_wp2_with fail
        refine kO1.mono ?_
        rintro e wr2 ⟨rfl, rfl⟩
        go_wp2_with fail
        refine kO2.mono ?_
        rintro e wr3 ⟨rfl, rfl⟩
        go_wp2_with fail
        go_ret
        exact ⟨by first | rfl | simp, HP.out.bel⟩
end Go.Proofs.Ytdcoeebpknipdaa
