/- The reference's reader of groups. -/
import Derived.Test.YtpdlioidiobbbaaRk4
import Derived.Test.YtpdlioidiobbbaaRg4
namespace Go.Proofs.Ytpdlioidiobbbaa
open Go.RowKit Go.Sort

set_option maxRecDepth 100000 in
set_option maxHeartbeats 6400000 in
theorem kgroups (B K : Nat) (v : Value) (l : Bs) (w : World) (p e : Nat) (hlb : l.length ≤ 1048576) (h : RP B K v l w p e) :
    Calls Try.prog 67 #[.pointer (some ⟨K, 0, none⟩)] w fun er w' => ∃ (x : Value) (gs : List Gp), er = .returned x ∧ w'.ownsRow w.heap.size 77 4 x gs.length (gs.flatMap cl_grp) ∧ (∀ g ∈ gs, GpIn w.heap.size w' g) ∧ GK B K v l w w' (p, e) (skL l (skGrp l)) (Num.uv gs.length ++ gs.flatMap r_grp) := by
  obtain ⟨i0, hi0, hz0, hz1, hz2⟩ := info_parts Try.inf_grp
  obtain ⟨j0, hj0, jz0, jz1, jz2⟩ := info_parts Try.inf_prt
  have hRw := h.lt
  have hple := h.le
  have kC := kcount B K v l w p e hlb h
  obtain ⟨n, hn⟩ : ∃ n, n = (cS l p e 1).1 := ⟨_, rfl⟩
  obtain ⟨s1, hs1⟩ : ∃ s : Sg2, s = (cS l p e 1).2 := ⟨_, rfl⟩
  have hnl : n ≤ 1048576 := by rw [hn]; exact Nat.le_trans (c_le l p e hple) hlb
  have e1 : (cS l p e 1).2.1 = s1.1 := by rw [hs1]
  have e2 : (cS l p e 1).2.2 = s1.2 := by rw [hs1]
  rw [← hn, e1, e2] at kC
  have HN : Hid (n = (cS l p e 1).1 ∧ s1 = (cS l p e 1).2) := ⟨hn, hs1⟩
  have HPS : Hid (RP B K v l w p e) := h
  have HRW : Hid (K < w.heap.size) := hRw
  clear hn hs1 e1 e2 h hple
  go_enter Try.func67, Try.ntmps67
  go_wp2_with fail
  refine kC.mono ?_
  rintro er w1 ⟨rfl, h1, g1⟩
  have HP1 : Hid (RP B K v l w1 s1.1 s1.2) := h1
  have HG1 : Hid (w.grownBy w1 (some K)) := g1
  clear kC h1 g1
  go_wp2_with fail
  go_loopg [3, 5] n (fun kx v3 v5 wo => ∃ (i : Nat) (gs : List Gp) (x3 : Value), v5 = .int .i64 (i : Int) ∧ x3 = v3 ∧ i ≤ n ∧ n - i ≤ kx ∧ Hid (gs.length = i) ∧ Hid (wo.ownsRow w.heap.size 77 4 x3 i (gs.flatMap cl_grp)) ∧ Hid (∀ x ∈ gs, GpIn w.heap.size wo x) ∧ Hid (RP B K v l wo (skN (skGrp l) i s1).1 (skN (skGrp l) i s1).2) ∧ Hid (w.grownBy wo (some K)) ∧ Hid (s1.2 = 0 → (skN (skGrp l) i s1).2 = 0 → gs.flatMap r_grp = rd l s1.1 (skN (skGrp l) i s1).1))
  case atStart => exact ⟨0, [], _, rfl, rfl, by omega, Nat.le_refl _, rfl, ⟨rfl, .inl ⟨rfl, rfl⟩⟩, (fun _ h => by cases h), HP1, HG1, fun _ _ => by show _ = rd l s1.1 s1.1; simp [rd]⟩
  case round =>
    rename World => wo
    obtain ⟨i, gs, vr, rfl, rfl, hi, hkx, HXL, HOW, HOK, HP, HG, HBB⟩ := hrel
    obtain ⟨E, hE⟩ : ∃ E, E = (skN (skGrp l) i s1).2 := ⟨_, rfl⟩
    have HEE : Hid (E = (skN (skGrp l) i s1).2) := hE
    have hks := HP.out.ks
    rw [← hE] at hks
    obtain ⟨c0, c1, c2, cf⟩ := hks.cells
    clear hks hE cf c0 c1
    by_cases hlt : i < n
    · have hltz : (i : Int) < (n : Int) := by omega
      by_cases he : E = 0
      · subst he
        obtain ⟨q, hq⟩ : ∃ q, q = (skN (skGrp l) i s1).1 := ⟨_, rfl⟩
        have HQ : Hid ((q, 0) = skN (skGrp l) i s1) := Prod.ext hq HEE.out
        have hleg : ((q, 0) : Sg2).1 ≤ l.length := by rw [hq]; exact HP.out.le
        have rq : RP B K v l wo q 0 := by have := HP.out; rw [← hq, ← HEE.out] at this; exact this
        have hKr : K < wo.heap.size := rq.lt
        obtain ⟨A, hA⟩ : ∃ A, A = wo.alloc (.cells #[.int .i64 0, .int .i64 0, .slice none 0 0, .slice none 0 0] 77) := ⟨_, rfl⟩
        have G0 : GK B K v l wo A (q, 0) (fun s => s) [] := GK.id (by rw [hA]; exact rq.keep ((Below.refl (K + 1) wo).alloc hKr _)) (by rw [hA]; exact grown_alloc _ _ _)
        have X0 : BxA A wo.heap.size 77 #[.int .i64 0, .int .i64 0, .slice none 0 0, .slice none 0 0] := by rw [hA]; exact BxA.new _ _ _
        have kg0 := kwhole B K v l A _ _ G0.ps
        have Hg0 : Hid _ := And.intro G0 X0
        have HA : Hid (A = _) := hA
        clear hq rq hA G0 X0
        go_upto_region 7 with fail
        rw [← HA.out]
        go_wp2_with fail
        refine kg0.mono ?_
        rintro er g1 ⟨S, rfl, iS, G⟩
        obtain ⟨GA, xF⟩ := Hg0.out
        have GC := GK.comp hleg (fwd_id l) (fwd_u l) GA G
        have xF1 := BxA.grow xF G.g (by omega)
        have zg0 : g1.cell? ⟨wo.heap.size, 0, none⟩ = some (.int .i64 0) := BxA.cell xF1 0 _ rfl
        have fg0 : g1.frozen? ⟨wo.heap.size, 0, none⟩ = false := BxA.free xF1 0
        obtain ⟨Yg1, hYg1⟩ : ∃ Y, Y = g1.setCell ⟨wo.heap.size, 0, none⟩ (.int .i64 S) := ⟨_, rfl⟩
        have GY := GC.fld (g := wo.heap.size) (by omega) (BxA.lt xF1) (by omega) 0 (.int .i64 S)
        rw [← hYg1] at GY
        have xFY : BxA Yg1 (wo.heap.size) 77 #[.int .i64 S, .int .i64 0, .slice none 0 0, .slice none 0 0] := by rw [hYg1]; exact BxA.set xF1 0 _
        have kg1 := kint B K v l Yg1 _ _ GY.ps
        have HYg1 : Hid (Yg1 = _) := hYg1
        have Hg1 : Hid _ := (And.intro GY xFY)
        have HHgiS : Hid _ := iS
        clear kg0 G GA xF GC xF1 hYg1 GY xFY  iS
        go_wp2_with fail
        rw [← HYg1.out]
        refine kg1.mono ?_
        rintro er g2 ⟨U, rfl, iU, G⟩
        obtain ⟨GA, xF⟩ := Hg1.out
        have GC := GK.comp hleg (fwd_u l) (fwd_u l) GA G
        have xF1 := BxA.grow xF G.g (by omega)
        have zg1 : g2.cell? ⟨wo.heap.size, 1, none⟩ = some (.int .i64 0) := BxA.cell xF1 1 _ rfl
        have fg1 : g2.frozen? ⟨wo.heap.size, 1, none⟩ = false := BxA.free xF1 1
        obtain ⟨Yg2, hYg2⟩ : ∃ Y, Y = g2.setCell ⟨wo.heap.size, 1, none⟩ (.int .i64 U) := ⟨_, rfl⟩
        have GY := GC.fld (g := wo.heap.size) (by omega) (BxA.lt xF1) (by omega) 1 (.int .i64 U)
        rw [← hYg2] at GY
        have xFY : BxA Yg2 (wo.heap.size) 77 #[.int .i64 S, .int .i64 U, .slice none 0 0, .slice none 0 0] := by rw [hYg2]; exact BxA.set xF1 1 _
        have kg2 := ktexts B K v l Yg2 _ _ hlb GY.ps
        have HYg2 : Hid (Yg2 = _) := hYg2
        have Hg2 : Hid _ := (And.intro GY xFY)
        have HHgiU : Hid _ := iU
        clear kg1 G GA xF GC xF1 hYg2 GY xFY  iU
        go_wp2_with fail
        rw [← HYg2.out]
        refine kg2.mono ?_
        rintro er g3 ⟨dv, ds, rfl, dw, dl, G⟩
        obtain ⟨da, dn, dc, rfl⟩ := own_sl dw
        obtain ⟨GA, xF⟩ := Hg2.out
        have GC := GK.comp hleg ((fwd_u l).comp (fwd_u l)) (fwd_txt l) GA G
        have xF1 := BxA.grow xF G.g (by omega)
        have dw1 := own_mono dw (BxA.lt xF)
        have zg2 : g3.cell? ⟨wo.heap.size, 2, none⟩ = some (.slice none 0 0) := BxA.cell xF1 2 _ rfl
        have fg2 : g3.frozen? ⟨wo.heap.size, 2, none⟩ = false := BxA.free xF1 2
        obtain ⟨Yg3, hYg3⟩ : ∃ Y, Y = g3.setCell ⟨wo.heap.size, 2, none⟩ (.slice da dn dc) := ⟨_, rfl⟩
        have GY := GC.fld (g := wo.heap.size) (by omega) (BxA.lt xF1) (by omega) 2 (.slice da dn dc)
        rw [← hYg3] at GY
        have xFY : BxA Yg3 (wo.heap.size) 77 #[.int .i64 S, .int .i64 U, .slice da dn dc, .slice none 0 0] := by rw [hYg3]; exact BxA.set xF1 2 _
        have dwY : Yg3.ownsRow (wo.heap.size + 1) 9 1 (.slice da dn dc) ds.length (ds.flatMap cl_str) := by rw [hYg3]; exact (BxA.ktt xF1 grown_setCell).own dw1 (by decide)
        have HYg3 : Hid (Yg3 = _) := hYg3
        have Hg3 : Hid _ := (And.intro GY (And.intro xFY dwY))
        have HHgdl : Hid _ := dl
        clear kg2 G GA xF GC xF1 hYg3 GY xFY dw dw1 dwY dl
        obtain ⟨t3, ht3⟩ : ∃ t3 : Sg2, t3 = skTxt l (skU l (skU l (q, 0))) := ⟨_, rfl⟩
        have ps3 : RP B K v l Yg3 t3.1 t3.2 := by rw [ht3]; exact Hg3.out.1.ps
        have kk := kcount B K v l Yg3 t3.1 t3.2 hlb ps3
        obtain ⟨m, hm⟩ : ∃ m, m = (cS l t3.1 t3.2 1).1 := ⟨_, rfl⟩
        obtain ⟨t1, ht1⟩ : ∃ s : Sg2, s = (cS l t3.1 t3.2 1).2 := ⟨_, rfl⟩
        have hml : m ≤ 1048576 := by rw [hm]; exact Nat.le_trans (c_le l t3.1 t3.2 ps3.le) hlb
        have e1 : (cS l t3.1 t3.2 1).2.1 = t1.1 := by rw [ht1]
        have e2 : (cS l t3.1 t3.2 1).2.2 = t1.2 := by rw [ht1]
        rw [← hm, e1, e2] at kk
        have HM : Hid (m = (cS l t3.1 t3.2 1).1 ∧ t1 = (cS l t3.1 t3.2 1).2) := ⟨hm, ht1⟩
        have HT3 : Hid (t3 = _) := ht3
        have HT3p : Hid (RP B K v l Yg3 t3.1 t3.2) := ps3
        have FG3 := (((fwd_u l).comp (fwd_u l)).comp (fwd_txt l))
        clear hm ht1 e1 e2 ps3 ht3
        go_wp2_with fail
        clear zg0 fg0 zg1 fg1 zg2 fg2
        rw [← HYg3.out]
        refine kk.mono ?_
        rintro er cw ⟨rfl, hPc, gc⟩
        obtain ⟨GA, xF, dw⟩ := Hg3.out
        have HPc : Hid (RP B K v l cw t1.1 t1.2) := hPc
        have HXc : Hid (BxA cw wo.heap.size 77 #[.int .i64 S, .int .i64 U, .slice da dn dc, .slice none 0 0]) := BxA.grow xF gc (by omega)
        have HDc : Hid (cw.ownsRow (wo.heap.size + 1) 9 1 (.slice da dn dc) ds.length (ds.flatMap cl_str)) := (RP.ktt GA.ps gc).own dw (by decide)
        have HGc : Hid (wo.grownBy cw (some K)) := grown_trans' GA.g gc
        clear GA xF dw hPc gc kk
        go_wp2_with fail
        go_loopg [8] m (fun ky v8 wr => ∃ (j : Nat) (ps : List Pt) (pa : Option Addr) (pn pc : Nat), v8 = .int .i64 (j : Int) ∧ j ≤ m ∧ m - j ≤ ky ∧ Hid (ps.length = j) ∧ Hid (BxA wr wo.heap.size 77 #[.int .i64 S, .int .i64 U, .slice da dn dc, .slice pa pn pc]) ∧ Hid (wr.ownsRow (wo.heap.size + 1) 87 3 (.slice pa pn pc) j (ps.flatMap cl_prt)) ∧ Hid (∀ x ∈ ps, PtIn (wo.heap.size + 1) wr x) ∧ Hid (wr.ownsRow (wo.heap.size + 1) 9 1 (.slice da dn dc) ds.length (ds.flatMap cl_str)) ∧ Hid (RP B K v l wr (skN (skPrt l) j t1).1 (skN (skPrt l) j t1).2) ∧ Hid (wo.grownBy wr (some K)) ∧ Hid (t1.2 = 0 → (skN (skPrt l) j t1).2 = 0 → ps.flatMap r_prt = rd l t1.1 (skN (skPrt l) j t1).1))
        case atStart => exact ⟨0, [], none, 0, 0, rfl, by omega, Nat.le_refl _, rfl, HXc, ⟨rfl, .inl ⟨rfl, rfl⟩⟩, (fun _ h => by cases h), HDc, HPc, HGc, fun _ _ => by show _ = rd l t1.1 t1.1; simp [rd]⟩
        case round =>
          obtain ⟨j, ps, pa, pn, pc, rfl, hj, hky, HPL, HBG, HPW, HPO, HDR, HPi, HGi, HPB⟩ := hrel
          obtain ⟨E2, hE2⟩ : ∃ E, E = (skN (skPrt l) j t1).2 := ⟨_, rfl⟩
          have HE2 : Hid (E2 = (skN (skPrt l) j t1).2) := hE2
          have hks := HPi.out.ks
          rw [← hE2] at hks
          obtain ⟨c0, c1, c2, cf⟩ := hks.cells
          clear hks hE2 cf c0 c1
          by_cases hlj : j < m
          · have hljz : (j : Int) < (m : Int) := by omega
            by_cases he2 : E2 = 0
            · subst he2
              obtain ⟨pq, hpq⟩ : ∃ q, q = (skN (skPrt l) j t1).1 := ⟨_, rfl⟩
              have HPQ : Hid ((pq, 0) = skN (skPrt l) j t1) := Prod.ext hpq HE2.out
              have hlep : ((pq, 0) : Sg2).1 ≤ l.length := by rw [hpq]; exact HPi.out.le
              have rp : RP B K v l wr pq 0 := by have := HPi.out; rw [← hpq, ← HE2.out] at this; exact this
              have hKi : K < wr.heap.size := rp.lt
              have hgi : wo.heap.size < wr.heap.size := BxA.lt HBG.out
              obtain ⟨C, hC⟩ : ∃ C, C = wr.alloc (.cells #[.int .u64 0, .int .i64 0, .slice none 0 0] 87) := ⟨_, rfl⟩
              have G0 : GK B K v l wr C (pq, 0) (fun s => s) [] := GK.id (by rw [hC]; exact rp.keep ((Below.refl (K + 1) wr).alloc hKi _)) (by rw [hC]; exact grown_alloc _ _ _)
              have X0 : BxA C wr.heap.size 87 #[.int .u64 0, .int .i64 0, .slice none 0 0] := by rw [hC]; exact BxA.new _ _ _
              have kp0 := kuint B K v l C _ _ G0.ps
              have Hp0 : Hid _ := And.intro G0 X0
              have HC : Hid (C = _) := hC
              clear hpq rp hC G0 X0
              go_upto_region 15 with fail
              rw [← HC.out]
              go_wp2_with fail
              refine kp0.mono ?_
              rintro er p1 ⟨N, rfl, iN, G⟩
              obtain ⟨GA, xF⟩ := Hp0.out
              have GC := GK.comp hlep (fwd_id l) (fwd_u l) GA G
              have xF1 := BxA.grow xF G.g (by omega)
              have zp0 : p1.cell? ⟨wr.heap.size, 0, none⟩ = some (.int .u64 0) := BxA.cell xF1 0 _ rfl
              have fp0 : p1.frozen? ⟨wr.heap.size, 0, none⟩ = false := BxA.free xF1 0
              obtain ⟨Yp1, hYp1⟩ : ∃ Y, Y = p1.setCell ⟨wr.heap.size, 0, none⟩ (.int .u64 (N : Int)) := ⟨_, rfl⟩
              have GY := GC.fld (g := wr.heap.size) (by omega) (BxA.lt xF1) (by omega) 0 (.int .u64 (N : Int))
              rw [← hYp1] at GY
              have xFY : BxA Yp1 (wr.heap.size) 87 #[.int .u64 (N : Int), .int .i64 0, .slice none 0 0] := by rw [hYp1]; exact BxA.set xF1 0 _
              have kp1 := kint B K v l Yp1 _ _ GY.ps
              have HYp1 : Hid (Yp1 = _) := hYp1
              have Hp1 : Hid _ := (And.intro GY xFY)
              have HHpiN : Hid _ := iN
              clear kp0 G GA xF GC xF1 hYp1 GY xFY  iN
              go_wp2_with fail
              rw [← HYp1.out]
              refine kp1.mono ?_
              rintro er p2 ⟨V, rfl, iV, G⟩
              obtain ⟨GA, xF⟩ := Hp1.out
              have GC := GK.comp hlep (fwd_u l) (fwd_u l) GA G
              have xF1 := BxA.grow xF G.g (by omega)
              have zp1 : p2.cell? ⟨wr.heap.size, 1, none⟩ = some (.int .i64 0) := BxA.cell xF1 1 _ rfl
              have fp1 : p2.frozen? ⟨wr.heap.size, 1, none⟩ = false := BxA.free xF1 1
              obtain ⟨Yp2, hYp2⟩ : ∃ Y, Y = p2.setCell ⟨wr.heap.size, 1, none⟩ (.int .i64 V) := ⟨_, rfl⟩
              have GY := GC.fld (g := wr.heap.size) (by omega) (BxA.lt xF1) (by omega) 1 (.int .i64 V)
              rw [← hYp2] at GY
              have xFY : BxA Yp2 (wr.heap.size) 87 #[.int .u64 (N : Int), .int .i64 V, .slice none 0 0] := by rw [hYp2]; exact BxA.set xF1 1 _
              have kp2 := ktexts B K v l Yp2 _ _ hlb GY.ps
              have HYp2 : Hid (Yp2 = _) := hYp2
              have Hp2 : Hid _ := (And.intro GY xFY)
              have HHpiV : Hid _ := iV
              clear kp1 G GA xF GC xF1 hYp2 GY xFY  iV
              go_wp2_with fail
              rw [← HYp2.out]
              refine kp2.mono ?_
              rintro er p3 ⟨tv, ts, rfl, tw, tl, G⟩
              obtain ⟨ta, tn, tc, rfl⟩ := own_sl tw
              obtain ⟨GA, xF⟩ := Hp2.out
              have GC := GK.comp hlep ((fwd_u l).comp (fwd_u l)) (fwd_txt l) GA G
              have xF1 := BxA.grow xF G.g (by omega)
              have tw1 := own_mono tw (BxA.lt xF)
              have zp2 : p3.cell? ⟨wr.heap.size, 2, none⟩ = some (.slice none 0 0) := BxA.cell xF1 2 _ rfl
              have fp2 : p3.frozen? ⟨wr.heap.size, 2, none⟩ = false := BxA.free xF1 2
              obtain ⟨Yp3, hYp3⟩ : ∃ Y, Y = p3.setCell ⟨wr.heap.size, 2, none⟩ (.slice ta tn tc) := ⟨_, rfl⟩
              have GY := GC.fld (g := wr.heap.size) (by omega) (BxA.lt xF1) (by omega) 2 (.slice ta tn tc)
              rw [← hYp3] at GY
              have xFY : BxA Yp3 (wr.heap.size) 87 #[.int .u64 (N : Int), .int .i64 V, .slice ta tn tc] := by rw [hYp3]; exact BxA.set xF1 2 _
              have twY : Yp3.ownsRow (wr.heap.size + 1) 9 1 (.slice ta tn tc) ts.length (ts.flatMap cl_str) := by rw [hYp3]; exact (BxA.ktt xF1 grown_setCell).own tw1 (by decide)
              have HYp3 : Hid (Yp3 = _) := hYp3
              have Hp3 : Hid _ := (And.intro GY (And.intro xFY twY))
              have HHptl : Hid _ := tl
              clear kp2 G GA xF GC xF1 hYp3 GY xFY tw tw1 twY tl
              obtain ⟨GP, xP, twY⟩ := Hp3.out
              have xGp : BxA Yp3 wo.heap.size 77 #[.int .i64 S, .int .i64 U, .slice da dn dc, .slice pa pn pc] := BxA.grow HBG.out GP.g (by omega)
              have q0 : Yp3.cell? ⟨wr.heap.size, 0, none⟩ = some (.int .u64 (N : Int)) := BxA.cell xP 0 _ rfl
              have q1 : Yp3.cell? ⟨wr.heap.size, 1, none⟩ = some (.int .i64 V) := BxA.cell xP 1 _ rfl
              have q2 : Yp3.cell? ⟨wr.heap.size, 2, none⟩ = some (.slice ta tn tc) := BxA.cell xP 2 _ rfl
              have q3 : Yp3.cell? ⟨wo.heap.size, 3, none⟩ = some (.slice pa pn pc) := BxA.cell xGp 3 _ rfl
              have HPWp : Hid (Yp3.ownsRow (wo.heap.size + 1) 87 3 (.slice pa pn pc) j (ps.flatMap cl_prt)) := (HPi.out.ktt GP.g).own HPW.out (by decide)
              have HXG : Hid (BxA Yp3 wo.heap.size 77 #[.int .i64 S, .int .i64 U, .slice da dn dc, .slice pa pn pc]) := xGp
              have hszp : wo.heap.size + 1 ≤ Yp3.heap.size := BxA.lt xGp
              clear GP xP twY xGp
              go_upto_region 18 with fail
              rw [← HYp3.out]
              clear zp0 fp0 zp1 fp1 zp2 fp2
              go_wp2_with (first | (at_builtin; refine wpList_appK rfl _ _ 75 rfl (wo.heap.size + 1) 87 j0 (.agg #[.int .u64 0, .int .i64 0, .slice none 0 0]) 3 40 Try.underlying75 hj0 jz0 jz1 jz2 rfl (by decide) (.slice pa pn pc) j (ps.flatMap cl_prt) rfl (World.ownsRow.alloc HPWp.out (.cells #[.int .u64 (N : Int), .int .i64 V, .slice ta tn tc] 87)) (.slice (some ⟨Yp3.heap.size, 0, none⟩) 1 1) 1 [.int .u64 (N : Int), .int .i64 V, .slice ta tn tc] rfl (lit_rds' Yp3 [.int .u64 (N : Int), .int .i64 V, .slice ta tn tc] 87 _ rfl) (fun u hu => by simp at hu; rcases hu with rfl | rfl | rfl <;> rfl) (by unfold maxLen; omega) (by omega) (Nat.le_trans hszp (by simp)) ?_; intro v3 w3 o3 g3; obtain ⟨xa, xn, xc, rfl⟩ := own_sl o3; have x3 : BxA w3 wo.heap.size 77 #[.int .i64 S, .int .i64 U, .slice da dn dc, .slice pa pn pc] := (by have hb := HXG.out; unfold BxA at hb ⊢; rw [g3.block _ (by have := BxA.lt HXG.out; simp; omega) (fun e => by have := (World.ownsRow.lt (World.ownsRow.alloc HPWp.out (.cells #[.int .u64 (N : Int), .int .i64 V, .slice ta tn tc] 87)) _ e.symm).1; omega), Below.heap_alloc _ _ _ (BxA.lt HXG.out)]; exact hb); have z3 : w3.cell? ⟨wo.heap.size, 3, none⟩ = some (.slice pa pn pc) := BxA.cell x3 3 _ rfl; have f3 : w3.frozen? ⟨wo.heap.size, 3, none⟩ = false := BxA.free x3 3; have H3 : Hid _ := And.intro o3 (And.intro g3 x3); clear o3 g3 x3))
              go_roundg (m - (j + 1))
              case measure => omega
              case rel =>
                obtain ⟨o3, g3, x3⟩ := H3.out
                obtain ⟨GP, xP, twY⟩ := Hp3.out
                have gA : Yp3.grownBy w3 (Value.ownBlock (.slice pa pn pc)) := grown_trans' (grown_alloc _ _ _) g3
                have hrl : ∀ g, Value.ownBlock (.slice pa pn pc) = some g → wo.heap.size + 1 ≤ g ∧ g < wr.heap.size := fun g hg => World.ownsRow.lt HPW.out g hg
                have hKp : K < Yp3.heap.size := GP.ps.lt
                have bA : Below (K + 1) Yp3 w3 := ⟨gA.os, gA.tape, gA.output, gA.size, fun j hj => gA.block j (by omega) (fun e => by have := hrl j e.symm; omega)⟩
                have KA : KTT [87, 77] Yp3 (w3.setCell ⟨wo.heap.size, 3, none⟩ (.slice xa xn xc)) := ((own_grow (T := [87, 77]) HPWp.out gA (by simp))).trans ((BxA.ktt x3 grown_setCell).mono fun t ht => by simp at ht; simp [ht])
                have HS3 : skPrt l (pq, 0) = skN (skPrt l) (j + 1) t1 := by rw [skN_succ, ← HPQ.out]
                refine ⟨j + 1, ps ++ [⟨N, V, .slice ta tn tc, ts⟩], xa, xn, xc, by go_num, by omega, Nat.le_refl _, by apply hide; simp [HPL.out], BxA.set x3 3 _, ?_, ?_, ?_, ?_, ?_, ?_⟩
                · apply hide
                  have := (Win.grow (own_win o3) (grown_setCell (w := w3) (R := wo.heap.size) (j := 3) (u := .slice xa xn xc)) (by omega)).now
                  simpa [cl_prt] using this
                · intro y hy
                  rcases List.mem_append.1 hy with hy | hy
                  · exact ((HPO.out y hy).keep (HPi.out.ktt GP.g) (by decide)).keep KA (by decide)
                  · simp at hy
                    subst hy
                    exact ⟨HHpiN.out, HHpiV.out, own_mono (KA.own twY (by decide)) (by have := BxA.lt HBG.out; omega), HHptl.out⟩
                · exact KA.own ((HPi.out.ktt GP.g).own HDR.out (by decide)) (by decide)
                · apply hide
                  rw [← HS3]
                  exact (GP.ps.keep bA).keep (grown_above grown_setCell (by omega) (BxA.lt x3))
                · exact fill_grown (grown_new (grown_trans' (grown_trans' HGi.out GP.g) (grown_alloc _ _ _)) (own_mono (World.ownsRow.alloc HPWp.out (.cells #[.int .u64 (N : Int), .int .i64 V, .slice ta tn tc] 87)) (Nat.le_succ _)) g3) grown_setCell (Nat.le_refl _)
                · intro h0 h2
                  have hlej := (fwd_n (fwd_prt l) j).le t1 HPc.out.le
                  have hp0 : (skN (skPrt l) j t1).2 = 0 := by rw [← HPQ.out]
                  have hp1 : (skN (skPrt l) j t1).1 = pq := by rw [← HPQ.out]
                  rw [List.flatMap_append, HPB.out h0 hp0]
                  rw [← HS3] at h2 ⊢
                  simp only [List.flatMap_cons, List.flatMap_nil, List.append_nil]
                  have hb := GP.b rfl h2
                  rw [hp1] at hlej ⊢
                  have hb' : r_prt ⟨N, V, .slice ta tn tc, ts⟩ = rd l pq (skPrt l (pq, 0)).1 := by
                    refine Eq.trans ?_ hb
                    simp only [r_prt, List.append_assoc, List.nil_append]
                  exact (congrArg (rd l t1.1 pq ++ ·) hb').trans (rd_app l hlej.1 ((fwd_prt l).le (pq, 0) hlej.2).1).symm
            · have hE2b : ((E2 : Int) == 0) = false := by simpa using he2
              have c0 : wr.cell? ⟨wo.heap.size, 0, none⟩ = some (.int .i64 S) := BxA.cell HBG.out 0 _ rfl
              have c1 : wr.cell? ⟨wo.heap.size, 1, none⟩ = some (.int .i64 U) := BxA.cell HBG.out 1 _ rfl
              have c2' : wr.cell? ⟨wo.heap.size, 2, none⟩ = some (.slice da dn dc) := BxA.cell HBG.out 2 _ rfl
              have c3 : wr.cell? ⟨wo.heap.size, 3, none⟩ = some (.slice pa pn pc) := BxA.cell HBG.out 3 _ rfl
              have HOWi : Hid (wr.ownsRow w.heap.size 77 4 vr i (gs.flatMap cl_grp)) := (HP.out.ktt HGi.out).own HOW.out (by decide)
              have hszi : w.heap.size ≤ wr.heap.size := Nat.le_trans HG.out.size HGi.out.size
              have hKi : K < wr.heap.size := HPi.out.lt
              go_wp2_with (first | (at_builtin; refine wpList_appK rfl _ _ 44 rfl w.heap.size 77 i0 (.agg #[.int .i64 0, .int .i64 0, .slice none 0 0, .slice none 0 0]) 4 64 Try.underlying44 hi0 hz0 hz1 hz2 rfl (by decide) vr i (gs.flatMap cl_grp) rfl (World.ownsRow.alloc HOWi.out (.cells #[.int .i64 S, .int .i64 U, .slice da dn dc, .slice pa pn pc] 77)) (.slice (some ⟨wr.heap.size, 0, none⟩) 1 1) 1 [.int .i64 S, .int .i64 U, .slice da dn dc, .slice pa pn pc] rfl (lit_rds' wr [.int .i64 S, .int .i64 U, .slice da dn dc, .slice pa pn pc] 77 _ rfl) (fun u hu => by simp at hu; rcases hu with rfl | rfl | rfl | rfl <;> rfl) (by unfold maxLen; omega) (by omega) (Nat.le_trans hszi (by simp)) ?_; intro v3 w3 o3 g3; have HO3 : Hid (w3.ownsRow w.heap.size 77 4 v3 (i + 1) (gs.flatMap cl_grp ++ [.int .i64 S, .int .i64 U, .slice da dn dc, .slice pa pn pc])) := o3; have HG3 : Hid ((wr.alloc (.cells #[.int .i64 S, .int .i64 U, .slice da dn dc, .slice pa pn pc] 77)).grownBy w3 vr.ownBlock) := g3; clear o3 g3))
              have hrl : ∀ g, vr.ownBlock = some g → w.heap.size ≤ g := fun g hg => (World.ownsRow.lt HOW.out g hg).1
              have gA : wr.grownBy w3 vr.ownBlock := grown_trans' (grown_alloc _ _ _) HG3.out
              have bA : Below (K + 1) wr w3 := ⟨gA.os, gA.tape, gA.output, gA.size, fun j hj => gA.block j (by omega) (fun e => by have := hrl j e.symm; have := HRW.out; omega)⟩
              have KA : KTT [77] wr w3 := own_grow HOWi.out gA (by simp)
              have HS2 : skGrp l (q, 0) = skN (skGrp l) (i + 1) s1 := by rw [skN_succ, ← HQ.out]
              go_roundg (n - (i + 1))
              case measure => omega
              case rel =>
                have es : skGrp l (q, 0) = skN (skPrt l) j t1 := by
                  rw [show skGrp l (q, 0) = skN (skPrt l) (cS l t3.1 t3.2 1).1 (cS l t3.1 t3.2 1).2 by rw [HT3.out]; rfl, ← HM.out.1, ← HM.out.2, show m = j + (m - j) by omega, skN_add]; exact skN_stay (fwd_prt l).stay _ _ (by rw [← HE2.out]; exact he2)
                refine ⟨i + 1, gs ++ [⟨S, U, .slice da dn dc, ds, .slice pa pn pc, ps⟩], v3, by go_num, rfl, by omega, Nat.le_refl _, by apply hide; simp [HXL.out], ?_, ?_, ?_, ?_, ?_⟩
                · apply hide
                  have := HO3.out
                  simpa [cl_grp] using this
                · intro y hy
                  rcases List.mem_append.1 hy with hy | hy
                  · exact ((HOK.out y hy).keep (HP.out.ktt HGi.out) (by decide) (by decide)).keep KA (by decide) (by decide)
                  · simp at hy
                    subst hy
                    have hle : w.heap.size ≤ wo.heap.size + 1 := Nat.le_succ_of_le HG.out.size
                    exact ⟨HHgiS.out, HHgiU.out, own_mono (KA.own HDR.out (by decide)) hle, HHgdl.out, own_mono (KA.own (by rw [HPL.out]; exact HPW.out) (by decide)) hle, fun y hy => ((HPO.out y hy).keep KA (by decide)).mono hle⟩
                · apply hide
                  rw [← HS2, es]
                  exact HPi.out.keep bA
                · exact grown_new (grown_trans' (grown_trans' HG.out HGi.out) (grown_alloc _ _ _)) (World.ownsRow.alloc HOWi.out (.cells #[.int .i64 S, .int .i64 U, .slice da dn dc, .slice pa pn pc] 77)) HG3.out
                · intro h0 h2
                  rw [← HS2, es] at h2 ⊢
                  exact absurd h2 (by rw [← HE2.out]; exact he2)
          · have hljz : ¬ (j : Int) < (m : Int) := by omega
            obtain rfl : j = m := by omega
            have c0 : wr.cell? ⟨wo.heap.size, 0, none⟩ = some (.int .i64 S) := BxA.cell HBG.out 0 _ rfl
            have c1 : wr.cell? ⟨wo.heap.size, 1, none⟩ = some (.int .i64 U) := BxA.cell HBG.out 1 _ rfl
            have c2' : wr.cell? ⟨wo.heap.size, 2, none⟩ = some (.slice da dn dc) := BxA.cell HBG.out 2 _ rfl
            have c3 : wr.cell? ⟨wo.heap.size, 3, none⟩ = some (.slice pa pn pc) := BxA.cell HBG.out 3 _ rfl
            have HOWi : Hid (wr.ownsRow w.heap.size 77 4 vr i (gs.flatMap cl_grp)) := (HP.out.ktt HGi.out).own HOW.out (by decide)
            have hszi : w.heap.size ≤ wr.heap.size := Nat.le_trans HG.out.size HGi.out.size
            have hKi : K < wr.heap.size := HPi.out.lt
            go_wp2_with (first | (at_builtin; refine wpList_appK rfl _ _ 44 rfl w.heap.size 77 i0 (.agg #[.int .i64 0, .int .i64 0, .slice none 0 0, .slice none 0 0]) 4 64 Try.underlying44 hi0 hz0 hz1 hz2 rfl (by decide) vr i (gs.flatMap cl_grp) rfl (World.ownsRow.alloc HOWi.out (.cells #[.int .i64 S, .int .i64 U, .slice da dn dc, .slice pa pn pc] 77)) (.slice (some ⟨wr.heap.size, 0, none⟩) 1 1) 1 [.int .i64 S, .int .i64 U, .slice da dn dc, .slice pa pn pc] rfl (lit_rds' wr [.int .i64 S, .int .i64 U, .slice da dn dc, .slice pa pn pc] 77 _ rfl) (fun u hu => by simp at hu; rcases hu with rfl | rfl | rfl | rfl <;> rfl) (by unfold maxLen; omega) (by omega) (Nat.le_trans hszi (by simp)) ?_; intro v3 w3 o3 g3; have HO3 : Hid (w3.ownsRow w.heap.size 77 4 v3 (i + 1) (gs.flatMap cl_grp ++ [.int .i64 S, .int .i64 U, .slice da dn dc, .slice pa pn pc])) := o3; have HG3 : Hid ((wr.alloc (.cells #[.int .i64 S, .int .i64 U, .slice da dn dc, .slice pa pn pc] 77)).grownBy w3 vr.ownBlock) := g3; clear o3 g3))
            have hrl : ∀ g, vr.ownBlock = some g → w.heap.size ≤ g := fun g hg => (World.ownsRow.lt HOW.out g hg).1
            have gA : wr.grownBy w3 vr.ownBlock := grown_trans' (grown_alloc _ _ _) HG3.out
            have bA : Below (K + 1) wr w3 := ⟨gA.os, gA.tape, gA.output, gA.size, fun j hj => gA.block j (by omega) (fun e => by have := hrl j e.symm; have := HRW.out; omega)⟩
            have KA : KTT [77] wr w3 := own_grow HOWi.out gA (by simp)
            have HS2 : skGrp l (q, 0) = skN (skGrp l) (i + 1) s1 := by rw [skN_succ, ← HQ.out]
            go_roundg (n - (i + 1))
            case measure => omega
            case rel =>
              have es : skGrp l (q, 0) = skN (skPrt l) j t1 := by
                rw [show skGrp l (q, 0) = skN (skPrt l) (cS l t3.1 t3.2 1).1 (cS l t3.1 t3.2 1).2 by rw [HT3.out]; rfl, ← HM.out.1, ← HM.out.2]
              refine ⟨i + 1, gs ++ [⟨S, U, .slice da dn dc, ds, .slice pa pn pc, ps⟩], v3, by go_num, rfl, by omega, Nat.le_refl _, by apply hide; simp [HXL.out], ?_, ?_, ?_, ?_, ?_⟩
              · apply hide
                have := HO3.out
                simpa [cl_grp] using this
              · intro y hy
                rcases List.mem_append.1 hy with hy | hy
                · exact ((HOK.out y hy).keep (HP.out.ktt HGi.out) (by decide) (by decide)).keep KA (by decide) (by decide)
                · simp at hy
                  subst hy
                  have hle : w.heap.size ≤ wo.heap.size + 1 := Nat.le_succ_of_le HG.out.size
                  exact ⟨HHgiS.out, HHgiU.out, own_mono (KA.own HDR.out (by decide)) hle, HHgdl.out, own_mono (KA.own (by rw [HPL.out]; exact HPW.out) (by decide)) hle, fun y hy => ((HPO.out y hy).keep KA (by decide)).mono hle⟩
              · apply hide
                rw [← HS2, es]
                exact HPi.out.keep bA
              · exact grown_new (grown_trans' (grown_trans' HG.out HGi.out) (grown_alloc _ _ _)) (World.ownsRow.alloc HOWi.out (.cells #[.int .i64 S, .int .i64 U, .slice da dn dc, .slice pa pn pc] 77)) HG3.out
              · intro h0 h2
                rw [← HS2, es] at h2 ⊢
                have hq0 : (skN (skGrp l) i s1).2 = 0 := by rw [← HQ.out]
                have hq1 : (skN (skGrp l) i s1).1 = q := by rw [← HQ.out]
                have hle1 := (fwd_n (fwd_grp l) i).le s1 HP1.out.le
                rw [List.flatMap_append, HBB.out h0 hq0]
                simp only [List.flatMap_cons, List.flatMap_nil, List.append_nil]
                have ht0 : t1.2 = 0 := Classical.byContradiction fun hn0 => by
                  rw [skN_stay (fwd_prt l).stay _ _ hn0] at h2
                  exact hn0 h2
                have hc0 : (skC l t3).2 = 0 := by show (cS l t3.1 t3.2 1).2.2 = 0; rw [← HM.out.2]; exact ht0
                have ht3 : t3.2 = 0 := Classical.byContradiction fun hn0 => by
                  have := (fwd_c l).stay t3 hn0
                  rw [this] at hc0
                  exact hn0 hc0
                have hcb := c_bytes l t3 ht3 hc0
                have hA := Hg3.out.1.b rfl (by have := ht3; rw [HT3.out] at this; exact this)
                have hl5 : t3.1 ≤ l.length := HT3p.out.le
                have hle0 := (fwd_c l).le t3 hl5
                have hlej := (fwd_n (fwd_prt l) j).le t1 HPc.out.le
                have hle5 : q ≤ t3.1 := by rw [HT3.out]; exact (FG3.le (q, 0) hleg).1
                have e1 : (skC l t3).1 = t1.1 := by show (cS l t3.1 t3.2 1).2.1 = _; rw [← HM.out.2]
                have e4 : Num.uv ps.length = rd l t3.1 t1.1 := by
                  have := hcb.1
                  rw [e1] at this
                  rw [HPL.out, HM.out.1]
                  exact this
                have hA' : ((ei S ++ ei U) ++ r_txt ds) = rd l q t3.1 := by rw [HT3.out]; exact hA
                rw [e1] at hle0
                rw [hq1] at hle1 ⊢
                rw [rd_app l hle1.1 (Nat.le_trans hle5 (Nat.le_trans hle0.1 hlej.1)), rd_app l hle5 (Nat.le_trans hle0.1 hlej.1), rd_app l hle0.1 hlej.1, ← hA', ← e4, ← HPB.out ht0 h2]
                simp only [r_grp, List.append_assoc]
      · have hE2 : ((E : Int) == 0) = false := by simpa using he
        go_wp2_with fail
        go_ret
        have es : skL l (skGrp l) (p, e) = skN (skGrp l) i s1 := by
          show skN (skGrp l) (cS l p e 1).1 (cS l p e 1).2 = _
          rw [← HN.out.1, ← HN.out.2, show n = i + (n - i) by omega, skN_add]
          exact skN_stay (fwd_grp l).stay _ _ (by rw [← HEE.out]; exact he)
        refine ⟨vr, gs, rfl, by rw [HXL.out]; exact HOW.out, HOK.out, ?_, HG.out, fun h0 h2 => ?_⟩
        · rw [es]; exact HP.out
        · rw [es] at h2 ⊢
          exact absurd h2 (by rw [← HEE.out]; exact he)
    · have hltz : ¬ (i : Int) < (n : Int) := by omega
      obtain rfl : i = n := by omega
      go_wp2_with fail
      go_ret
      have es : skL l (skGrp l) (p, e) = skN (skGrp l) i s1 := by
        show skN (skGrp l) (cS l p e 1).1 (cS l p e 1).2 = _
        rw [← HN.out.1, ← HN.out.2]
      refine ⟨vr, rfl, gs, by rw [HXL.out]; exact HOW.out, HOK.out, ?_, HG.out, fun h0 h2 => ?_⟩
      · rw [es]; exact HP.out
      · rw [es] at h2 ⊢
        have hs0 : s1.2 = 0 := Classical.byContradiction fun hn0 => by
          rw [skN_stay (fwd_grp l).stay _ _ hn0] at h2
          exact hn0 h2
        have hcb := c_bytes l (p, e) h0 (by show (cS l p e 1).2.2 = 0; rw [← HN.out.2]; exact hs0)
        have hle0 := (fwd_c l).le (p, e) HPS.out.le
        have hle1 := (fwd_n (fwd_grp l) i).le s1 HP1.out.le
        have e1 : (skC l (p, e)).1 = s1.1 := by show (cS l p e 1).2.1 = _; rw [← HN.out.2]
        rw [HXL.out, HBB.out hs0 h2]
        have e4 : Num.uv i = rd l p s1.1 := by
          have := hcb.1
          rw [e1] at this
          rw [HN.out.1]
          exact this
        rw [e4]
        exact (rd_app l (by rw [← e1]; exact hle0.1) hle1.1).symm
end Go.Proofs.Ytpdlioidiobbbaa
