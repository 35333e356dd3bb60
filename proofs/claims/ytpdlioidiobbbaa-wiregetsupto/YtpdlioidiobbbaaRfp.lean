/- The reference's Put. -/
import Derived.Test.YtpdlioidiobbbaaRfq
import Derived.Test.YtpdlioidiobbbaaRfd
import Derived.Test.YtpdlioidiobbbaaMsp
namespace Go.Proofs.Ytpdlioidiobbbaa
open Go.RowKit

def mbox (m : Mm) (od : Bool) (s0 s1 s2 s3 s4 s5 s6 s7 : Value) : Array Value := (List.toArray ((.int .i64 m.kind) :: (.int .i64 m.frm) :: (.int .i64 m.to) :: (.int .u64 (m.id : Nat)) :: (.int .u64 (m.ask : Nat)) :: (.int .u64 (m.off : Nat)) :: (.int .i64 m.term) :: (.int .u64 (m.cnt : Nat)) :: (.int .i64 m.code) :: (.int .i64 m.ft) :: (s0) :: (s1) :: (.int .i64 m.q.F) :: (.int .i64 m.q.T) :: (.int .i64 m.q.t.k) :: (.int .i64 m.q.t.d) :: (s2) :: (.int .i64 m.q.t.lo) :: (.int .i64 m.q.t.hi) :: (s3) :: (.int .i64 m.q.g) :: (s4) :: (s5) :: (.int .i64 m.q.G) :: (.int .i64 m.q.R) :: (.int .i64 m.ps.F) :: (.int .i64 m.ps.T) :: (.int .i64 m.ps.V) :: (.int .i64 m.ps.P) :: (.int .i64 m.ps.C) :: (.int .i64 m.pF) :: (.int .i64 m.pT) :: (.bool od) :: (.int .i64 m.os.F) :: (.int .i64 m.os.T) :: (.int .i64 m.os.V) :: (.int .i64 m.os.P) :: (.int .i64 m.os.C) :: (.int .i64 m.on) :: (s6) :: (s7) :: []))
def r_prt (x : Pt) : Bs := Num.uv x.n ++ (ei x.v ++ r_txt x.ts)
def r_grp (x : Gp) : Bs := ei x.s ++ (ei x.b ++ (r_txt x.ds ++ (Num.uv x.ps.length ++ x.ps.flatMap r_prt)))
def r_msg (m : Mm) : Bs := ei m.kind ++ (ei m.frm ++ (ei m.to ++ (Num.uv m.id ++ (Num.uv m.ask ++ (Num.uv m.off ++ (ei m.term ++ (Num.uv m.cnt ++ (ei m.code ++ (ei m.ft ++ (r_txt m.fds ++ (Num.uv m.fms.length ++ (m.fms.flatMap ei ++ (r_query m.q ++ (r_seg m.ps ++ (r_span m.pF m.pT ++ (eb m.od ++ (r_seg m.os ++ (ei m.on ++ (Num.uv m.sg.length ++ (m.sg.flatMap r_seg ++ (Num.uv m.gp.length ++ m.gp.flatMap r_grp)))))))))))))))))))))
/-- What the reference's Put answers. -/
def rres (m : Mm) : Option Bs := if e_fil 20 m.q.t = none then none else if (r_msg m).length ≤ 1048576 then some (r_msg m) else none
theorem app_le {a b : Bs} {T : Nat} (h : (a ++ b).length ≤ T) : a.length ≤ T ∧ b.length ≤ T := by
  rw [List.length_append] at h
  exact ⟨Nat.le_trans (Nat.le_add_right _ _) h, Nat.le_trans (Nat.le_add_left _ _) h⟩
theorem msg_parts (m : Mm) (T : Nat) (h : (r_msg m).length ≤ T) : (r_txt m.fds).length ≤ T ∧ (m.fms.flatMap ei).length ≤ T ∧ (r_query m.q).length ≤ T ∧ (r_seg m.ps).length ≤ T ∧ (r_span m.pF m.pT).length ≤ T ∧ (r_seg m.os).length ≤ T ∧ (m.sg.flatMap r_seg).length ≤ T ∧ (m.gp.flatMap r_grp).length ≤ T := by
  unfold r_msg at h
  have h := (app_le (app_le (app_le (app_le (app_le (app_le (app_le (app_le (app_le (app_le h).2).2).2).2).2).2).2).2).2).2
  obtain ⟨g1, h⟩ := app_le h
  obtain ⟨-, h⟩ := app_le h
  obtain ⟨g2, h⟩ := app_le h
  obtain ⟨g3, h⟩ := app_le h
  obtain ⟨g4, h⟩ := app_le h
  obtain ⟨g5, h⟩ := app_le h
  obtain ⟨-, h⟩ := app_le h
  obtain ⟨g6, h⟩ := app_le h
  obtain ⟨-, h⟩ := app_le h
  obtain ⟨-, h⟩ := app_le h
  obtain ⟨g7, h⟩ := app_le h
  obtain ⟨-, g8⟩ := app_le h
  exact ⟨g1, g2, g3, g4, g5, g6, g7, g8⟩
theorem Depth_any (t : Fi.Tr) (w : World) (ho : t.Ok w) :
    Calls Try.prog 28 #[.agg #[.int .i64 t.k, .int .i64 t.d, t.tv, .int .i64 t.lo, .int .i64 t.hi, t.kv]] w fun e w' => e = .returned (.int .i64 (rdp 20 t : Nat)) ∧ Fi.Grows w w' ∧ rdp 20 t ≤ 21 := by
  have kD := depth_any 20 (by omega) t (w.alloc (.cells #[.int .i64 t.k, .int .i64 t.d, t.tv, .int .i64 t.lo, .int .i64 t.hi, t.kv] 32)) (ho.up (Fi.Grows.alloc _ _).below)
  obtain ⟨a1, n1, c1, e1⟩ := lst_sl (rds_lst ho.rt)
  obtain ⟨a2, n2, c2, e2⟩ := lst_sl (tr_lst ho)
  rw [e1, e2] at kD ⊢
  obtain ⟨R, hR⟩ : ∃ R, R = rdp 20 t := ⟨_, rfl⟩
  rw [← hR] at kD ⊢
  clear ho e1 e2 hR
  go_enter Try.func28, Try.ntmps28
  go_wp2_with fail
  refine kD.mono ?_
  rintro e w2 ⟨rfl, g2, h2⟩
  go_wp2_with fail
  go_ret
  exact ⟨rfl, (Fi.Grows.alloc _ _).trans g2, h2⟩
set_option maxRecDepth 100000 in
set_option maxHeartbeats 12800000 in
theorem rput_true (W0 : World) (m : Mm) (hm : m.Ok W0) (hod : m.od = true) (hN : (r_msg m).length ≤ 1073741824) :
    Calls Try.prog 10 #[.agg (List.toArray ((.int .i64 m.kind) :: (.int .i64 m.frm) :: (.int .i64 m.to) :: (.int .u64 (m.id : Nat)) :: (.int .u64 (m.ask : Nat)) :: (.int .u64 (m.off : Nat)) :: (.int .i64 m.term) :: (.int .u64 (m.cnt : Nat)) :: (.int .i64 m.code) :: (.int .i64 m.ft) :: (m.fdv) :: (m.fmv) :: (.int .i64 m.q.F) :: (.int .i64 m.q.T) :: (.int .i64 m.q.t.k) :: (.int .i64 m.q.t.d) :: (m.q.t.tv) :: (.int .i64 m.q.t.lo) :: (.int .i64 m.q.t.hi) :: (m.q.t.kv) :: (.int .i64 m.q.g) :: (m.q.sv) :: (m.q.av) :: (.int .i64 m.q.G) :: (.int .i64 m.q.R) :: (.int .i64 m.ps.F) :: (.int .i64 m.ps.T) :: (.int .i64 m.ps.V) :: (.int .i64 m.ps.P) :: (.int .i64 m.ps.C) :: (.int .i64 m.pF) :: (.int .i64 m.pT) :: (.bool m.od) :: (.int .i64 m.os.F) :: (.int .i64 m.os.T) :: (.int .i64 m.os.V) :: (.int .i64 m.os.P) :: (.int .i64 m.os.C) :: (.int .i64 m.on) :: (m.sv) :: (m.gv) :: []))] W0 (Puts W0 (rres m)) := by
  obtain ⟨za0, zc0, ze0, -, -⟩ := hm.fd.sl
  obtain ⟨za1, zc1, ze1, hl1, hc1⟩ := hm.fm.sl
  obtain ⟨za2, zn2, zc2, ze2⟩ := lst_sl (rds_lst hm.q.t.rt)
  obtain ⟨za3, zn3, zc3, ze3⟩ := lst_sl (tr_lst hm.q.t)
  obtain ⟨za4, zn4, zc4, ze4⟩ := lst_sl hm.q.s
  obtain ⟨za5, zn5, zc5, ze5⟩ := lst_sl hm.q.a
  obtain ⟨za6, zc6, ze6, hl6, hc6⟩ := hm.s.sl
  obtain ⟨za7, zc7, ze7, hl7, hc7⟩ := hm.g.sl
  unfold maxLen at hc1 hc6 hc7
  obtain ⟨zn0, hn0⟩ : ∃ n, n = m.fds.length := ⟨_, rfl⟩
  obtain ⟨zn1, hn1⟩ : ∃ n, n = m.fms.length := ⟨_, rfl⟩
  obtain ⟨zn6, hn6⟩ : ∃ n, n = m.sg.length := ⟨_, rfl⟩
  obtain ⟨zn7, hn7⟩ : ∃ n, n = m.gp.length := ⟨_, rfl⟩
  rw [← hn0] at ze0
  rw [← hn1] at ze1 hl1
  rw [← hn6] at ze6 hl6
  rw [← hn7] at ze7 hl7
  have hFD := hm.fd
  have hFM := hm.fm
  have hSG := hm.s
  have hGP := hm.g
  rw [ze0] at hFD
  rw [ze1] at hFM
  rw [ze6] at hSG
  rw [ze7] at hGP
  have HFD : Hid (Lst 1 cl_str W0 (.slice za0 zn0 zc0) m.fds) := hFD
  have HLS1 : Hid (Lst 1 cl_i64 W0 (.slice za1 zn1 zc1) m.fms) := hFM
  have HLS6 : Hid (Lst 5 cl_seg W0 (.slice za6 zn6 zc6) m.sg) := hSG
  have HLS7 : Hid (Lst 4 cl_grp W0 (.slice za7 zn7 zc7) m.gp) := hGP
  have HLN1 : Hid (zn1 = m.fms.length) := hn1
  have HLN6 : Hid (zn6 = m.sg.length) := hn6
  have HLN7 : Hid (zn7 = m.gp.length) := hn7
  have hu1 : zn1 < 18446744073709551616 := by omega
  have hu6 : zn6 < 18446744073709551616 := by omega
  have hu7 : zn7 < 18446744073709551616 := by omega
  obtain ⟨p1, p2, p3, p4, p5, p6, p7, p8⟩ := msg_parts m _ hN
  have PT : Hid ((r_txt m.fds).length ≤ 1073741824) := p1
  have PM : Hid ((m.fms.flatMap ei).length ≤ 1073741824) := p2
  have PQ : Hid ((r_query m.q).length ≤ 1073741824) := p3
  have PP : Hid ((r_seg m.ps).length ≤ 1073741824) := p4
  have PS : Hid ((r_span m.pF m.pT).length ≤ 1073741824) := p5
  have PO : Hid ((r_seg m.os).length ≤ 1073741824) := p6
  have PG : Hid ((m.sg.flatMap r_seg).length ≤ 1073741824) := p7
  have PR : Hid ((m.gp.flatMap r_grp).length ≤ 1073741824) := p8
  have kQ : ∀ (w : World) (v : Value) (l : Bs), Bf W0 w v l → l.length + (r_query m.q).length ≤ 1099511627776 → _ := fun w v l h hn => rquery W0 w v l m.q hm.q h hn
  rw [ze2, ze3, ze4, ze5] at kQ
  have HKQ : Aside _ := kQ
  obtain ⟨W1, hW1⟩ : ∃ W1, W1 = W0.alloc (.cells (mbox m true (.slice za0 zn0 zc0) (.slice za1 zn1 zc1) (.slice za2 zn2 zc2) (.slice za3 zn3 zc3) (.slice za4 zn4 zc4) (.slice za5 zn5 zc5) (.slice za6 zn6 zc6) (.slice za7 zn7 zc7)) 46) := ⟨_, rfl⟩
  have g1 : Fi.Grows W0 W1 := by rw [hW1]; exact Fi.Grows.alloc _ _
  have x1 : BxA W1 W0.heap.size 46 (mbox m true (.slice za0 zn0 zc0) (.slice za1 zn1 zc1) (.slice za2 zn2 zc2) (.slice za3 zn3 zc3) (.slice za4 zn4 zc4) (.slice za5 zn5 zc5) (.slice za6 zn6 zc6) (.slice za7 zn7 zc7)) := by rw [hW1]; exact BxA.new _ _ _
  have kD := Depth_any m.q.t W1 (hm.q.t.up g1.below)
  rw [ze2, ze3] at kD
  obtain ⟨R, hR⟩ : ∃ R, R = rdp 20 m.q.t := ⟨_, rfl⟩
  rw [← hR] at kD
  have HD : Hid (20 < R ↔ e_fil 20 m.q.t = none) := by apply hide; rw [hR]; exact depth_none 20 m.q.t
  have HW1 : Hid (W1 = _) := hW1
  have HG1 : Hid (Fi.Grows W0 W1) := g1
  have HX1 : Hid (BxA W1 W0.heap.size 46 (mbox m true (.slice za0 zn0 zc0) (.slice za1 zn1 zc1) (.slice za2 zn2 zc2) (.slice za3 zn3 zc3) (.slice za4 zn4 zc4) (.slice za5 zn5 zc5) (.slice za6 zn6 zc6) (.slice za7 zn7 zc7))) := x1
  have HM : Aside (m.Ok W0) := hm
  have HNN : Hid ((r_msg m).length ≤ 1073741824) := hN
  have HEB : Hid (eb m.od = [1]) := by apply hide; rw [hod]; rfl
  rw [ze0, ze1, ze2, ze3, ze4, ze5, ze6, ze7, hod]
  clear hFD hFM hSG hGP hn0 hn1 hn6 hn7 hN p1 p2 p3 p4 p5 p6 p7 p8 kQ hR hW1 g1 x1 hm hod ze0 ze1 ze2 ze3 ze4 ze5 ze6 ze7
  go_enter Try.func10, Try.ntmps10
  go_upto_region 1 with fail
  have e0 : ∀ (P : World → Prop), P W1 → P (W0.alloc (.cells (List.toArray ((.int .i64 m.kind) :: (.int .i64 m.frm) :: (.int .i64 m.to) :: (.int .u64 (m.id : Nat)) :: (.int .u64 (m.ask : Nat)) :: (.int .u64 (m.off : Nat)) :: (.int .i64 m.term) :: (.int .u64 (m.cnt : Nat)) :: (.int .i64 m.code) :: (.int .i64 m.ft) :: (.slice za0 zn0 zc0) :: (.slice za1 zn1 zc1) :: (.int .i64 m.q.F) :: (.int .i64 m.q.T) :: (.int .i64 m.q.t.k) :: (.int .i64 m.q.t.d) :: (.slice za2 zn2 zc2) :: (.int .i64 m.q.t.lo) :: (.int .i64 m.q.t.hi) :: (.slice za3 zn3 zc3) :: (.int .i64 m.q.g) :: (.slice za4 zn4 zc4) :: (.slice za5 zn5 zc5) :: (.int .i64 m.q.G) :: (.int .i64 m.q.R) :: (.int .i64 m.ps.F) :: (.int .i64 m.ps.T) :: (.int .i64 m.ps.V) :: (.int .i64 m.ps.P) :: (.int .i64 m.ps.C) :: (.int .i64 m.pF) :: (.int .i64 m.pT) :: (.bool true) :: (.int .i64 m.os.F) :: (.int .i64 m.os.T) :: (.int .i64 m.os.V) :: (.int .i64 m.os.P) :: (.int .i64 m.os.C) :: (.int .i64 m.on) :: (.slice za6 zn6 zc6) :: (.slice za7 zn7 zc7) :: [])) 46)) := fun P h => by
    have e := HW1.out
    unfold mbox at e
    rw [e] at h
    exact h
  refine e0 _ ?_
  clear e0
  have q0_14 : W1.cell? ⟨W0.heap.size, 14, none⟩ = some (.int .i64 m.q.t.k) := HX1.out.cell 14 _ rfl
  have q0_15 : W1.cell? ⟨W0.heap.size, 15, none⟩ = some (.int .i64 m.q.t.d) := HX1.out.cell 15 _ rfl
  have q0_16 : W1.cell? ⟨W0.heap.size, 16, none⟩ = some (.slice za2 zn2 zc2) := HX1.out.cell 16 _ rfl
  have q0_17 : W1.cell? ⟨W0.heap.size, 17, none⟩ = some (.int .i64 m.q.t.lo) := HX1.out.cell 17 _ rfl
  have q0_18 : W1.cell? ⟨W0.heap.size, 18, none⟩ = some (.int .i64 m.q.t.hi) := HX1.out.cell 18 _ rfl
  have q0_19 : W1.cell? ⟨W0.heap.size, 19, none⟩ = some (.slice za3 zn3 zc3) := HX1.out.cell 19 _ rfl
  go_wp2_with fail
  clear q0_14 q0_15 q0_16 q0_17 q0_18 q0_19
  refine kD.mono ?_
  rintro e wz ⟨rfl, gz, hRb⟩
  have HZ : Hid (Bf W0 wz (.slice none 0 0) []) := ⟨(HG1.out.trans gz).below, rfl, .inl ⟨rfl, rfl⟩⟩
  have KZ : Hid (KT W0 wz) := KT.of_below (HG1.out.trans gz).below
  have XZ : Hid (BxA wz W0.heap.size 46 (mbox m true (.slice za0 zn0 zc0) (.slice za1 zn1 zc1) (.slice za2 zn2 zc2) (.slice za3 zn3 zc3) (.slice za4 zn4 zc4) (.slice za5 zn5 zc5) (.slice za6 zn6 zc6) (.slice za7 zn7 zc7))) := HX1.out.kt (KT.of_below gz.below) (by decide)
  clear kD gz
  by_cases hdp : 20 < R
  · have hdz : (20 : Int) < (R : Int) := by omega
    go_wp2_with fail
    go_ret2
    refine ⟨HZ.out.b, .inl ⟨?_, rfl⟩⟩
    exact if_pos (HD.out.1 hdp)
  have hdz : ¬ (20 : Int) < (R : Int) := by omega
  have HDN : Hid (¬ e_fil 20 m.q.t = none) := fun h => hdp (HD.out.2 h)
  have q0_0 : wz.cell? ⟨W0.heap.size, 0, none⟩ = some (.int .i64 m.kind) := XZ.out.cell 0 _ rfl
  go_wp2_with fail
  clear q0_0
  have BDz : Hid (([] : Bs).length ≤ 0) := Nat.le_refl _
  have LBa0 : Hid (([] : Bs).length + (ei (m.kind)).length ≤ 140737488355328) := (by have e := BDz.out; have f := ei_len (m.kind); apply hide; omega)
  refine (refint_any wz (m.kind) HM.out.kind.1 HM.out.kind.2).mono ?_
  rintro e waa0 ⟨vaa0, rfl, oa, ba⟩
  change Owns waa0 _ vaa0 (ei (m.kind)) at oa
  obtain ⟨saa0, sca0, rfl, sn, sr⟩ := own_src oa
  have HBa0 : Hid (Bf W0 waa0 (.slice none 0 0) ([] : Bs)) := Bf.up HZ.out ba
  have KAa0 : Hid (KT W0 waa0) := (KZ.out).trans (KT.of_below ba)
  have XA0_a0 : Hid (BxA waa0 (W0.heap.size) 46 (mbox m true (.slice za0 zn0 zc0) (.slice za1 zn1 zc1) (.slice za2 zn2 zc2) (.slice za3 zn3 zc3) (.slice za4 zn4 zc4) (.slice za5 zn5 zc5) (.slice za6 zn6 zc6) (.slice za7 zn7 zc7))) := XZ.out.kt (KT.of_below ba) (by decide)
  have SNa0 : Hid (saa0 = none → (ei (m.kind)).length = 0 ∧ sca0 = 0) := sn
  have SRa0 : Hid _ := sr
  clear oa ba sn sr
  go_wp2_with (first | (at_builtin; refine wp_app rfl _ _ rfl W0.heap.size _ ([] : Bs) (ei (m.kind)) rfl HBa0.out.o _ _ _ rfl rfl SNa0.out SRa0.out LBa0.out HBa0.out.b.size ?_; intro va1 wa1 o g; obtain ⟨B, kt⟩ := HBa0.out.app o g; obtain ⟨La1, hL⟩ : ∃ L, L = ([] : Bs) ++ (ei (m.kind)) := ⟨_, rfl⟩; rw [← hL] at B; have HLa1 : Hid (La1 = ([] : Bs) ++ (ei (m.kind))) := hL; clear hL; have Ha1 : Hid (Bf W0 wa1 va1 La1) := B; have Ka1 : Hid (KT W0 wa1) := KAa0.out.trans kt; have X0_a1 : Hid (BxA wa1 (W0.heap.size) 46 (mbox m true (.slice za0 zn0 zc0) (.slice za1 zn1 zc1) (.slice za2 zn2 zc2) (.slice za3 zn3 zc3) (.slice za4 zn4 zc4) (.slice za5 zn5 zc5) (.slice za6 zn6 zc6) (.slice za7 zn7 zc7))) := XA0_a0.out.kt kt (by decide); clear o g B kt; have q0_1 : wa1.cell? ⟨W0.heap.size, 1, none⟩ = some (.int .i64 m.frm) := X0_a1.out.cell 1 _ rfl))
  clear q0_1
  clear LBa0 HBa0 KAa0 SNa0 SRa0 XA0_a0
  have BDa1 : Hid (La1.length ≤ 10) := (by have e := BDz.out; have f := ei_len (m.kind); have g := congrArg List.length HLa1.out; rw [List.length_append] at g; apply hide; omega)
  have LBa1 : Hid (La1.length + (ei (m.frm)).length ≤ 140737488355328) := (by have e := BDa1.out; have f := ei_len (m.frm); apply hide; omega)
  refine (refint_any wa1 (m.frm) HM.out.frm.1 HM.out.frm.2).mono ?_
  rintro e waa1 ⟨vaa1, rfl, oa, ba⟩
  change Owns waa1 _ vaa1 (ei (m.frm)) at oa
  obtain ⟨saa1, sca1, rfl, sn, sr⟩ := own_src oa
  have HBa1 : Hid (Bf W0 waa1 va1 La1) := Bf.up Ha1.out ba
  have KAa1 : Hid (KT W0 waa1) := (Ka1.out).trans (KT.of_below ba)
  have XA0_a1 : Hid (BxA waa1 (W0.heap.size) 46 (mbox m true (.slice za0 zn0 zc0) (.slice za1 zn1 zc1) (.slice za2 zn2 zc2) (.slice za3 zn3 zc3) (.slice za4 zn4 zc4) (.slice za5 zn5 zc5) (.slice za6 zn6 zc6) (.slice za7 zn7 zc7))) := X0_a1.out.kt (KT.of_below ba) (by decide)
  have SNa1 : Hid (saa1 = none → (ei (m.frm)).length = 0 ∧ sca1 = 0) := sn
  have SRa1 : Hid _ := sr
  clear oa ba sn sr
  go_wp2_with (first | (at_builtin; refine wp_app rfl _ _ rfl W0.heap.size _ La1 (ei (m.frm)) rfl HBa1.out.o _ _ _ rfl rfl SNa1.out SRa1.out LBa1.out HBa1.out.b.size ?_; intro va2 wa2 o g; obtain ⟨B, kt⟩ := HBa1.out.app o g; obtain ⟨La2, hL⟩ : ∃ L, L = La1 ++ (ei (m.frm)) := ⟨_, rfl⟩; rw [← hL] at B; have HLa2 : Hid (La2 = La1 ++ (ei (m.frm))) := hL; clear hL; have Ha2 : Hid (Bf W0 wa2 va2 La2) := B; have Ka2 : Hid (KT W0 wa2) := KAa1.out.trans kt; have X0_a2 : Hid (BxA wa2 (W0.heap.size) 46 (mbox m true (.slice za0 zn0 zc0) (.slice za1 zn1 zc1) (.slice za2 zn2 zc2) (.slice za3 zn3 zc3) (.slice za4 zn4 zc4) (.slice za5 zn5 zc5) (.slice za6 zn6 zc6) (.slice za7 zn7 zc7))) := XA0_a1.out.kt kt (by decide); clear o g B kt; have q0_2 : wa2.cell? ⟨W0.heap.size, 2, none⟩ = some (.int .i64 m.to) := X0_a2.out.cell 2 _ rfl))
  clear q0_2
  clear LBa1 HBa1 KAa1 SNa1 SRa1 XA0_a1 Ha1 Ka1 X0_a1
  have BDa2 : Hid (La2.length ≤ 20) := (by have e := BDa1.out; have f := ei_len (m.frm); have g := congrArg List.length HLa2.out; rw [List.length_append] at g; apply hide; omega)
  clear BDa1
  have LBa2 : Hid (La2.length + (ei (m.to)).length ≤ 140737488355328) := (by have e := BDa2.out; have f := ei_len (m.to); apply hide; omega)
  refine (refint_any wa2 (m.to) HM.out.to.1 HM.out.to.2).mono ?_
  rintro e waa2 ⟨vaa2, rfl, oa, ba⟩
  change Owns waa2 _ vaa2 (ei (m.to)) at oa
  obtain ⟨saa2, sca2, rfl, sn, sr⟩ := own_src oa
  have HBa2 : Hid (Bf W0 waa2 va2 La2) := Bf.up Ha2.out ba
  have KAa2 : Hid (KT W0 waa2) := (Ka2.out).trans (KT.of_below ba)
  have XA0_a2 : Hid (BxA waa2 (W0.heap.size) 46 (mbox m true (.slice za0 zn0 zc0) (.slice za1 zn1 zc1) (.slice za2 zn2 zc2) (.slice za3 zn3 zc3) (.slice za4 zn4 zc4) (.slice za5 zn5 zc5) (.slice za6 zn6 zc6) (.slice za7 zn7 zc7))) := X0_a2.out.kt (KT.of_below ba) (by decide)
  have SNa2 : Hid (saa2 = none → (ei (m.to)).length = 0 ∧ sca2 = 0) := sn
  have SRa2 : Hid _ := sr
  clear oa ba sn sr
  go_wp2_with (first | (at_builtin; refine wp_app rfl _ _ rfl W0.heap.size _ La2 (ei (m.to)) rfl HBa2.out.o _ _ _ rfl rfl SNa2.out SRa2.out LBa2.out HBa2.out.b.size ?_; intro va3 wa3 o g; obtain ⟨B, kt⟩ := HBa2.out.app o g; obtain ⟨La3, hL⟩ : ∃ L, L = La2 ++ (ei (m.to)) := ⟨_, rfl⟩; rw [← hL] at B; have HLa3 : Hid (La3 = La2 ++ (ei (m.to))) := hL; clear hL; have Ha3 : Hid (Bf W0 wa3 va3 La3) := B; have Ka3 : Hid (KT W0 wa3) := KAa2.out.trans kt; have X0_a3 : Hid (BxA wa3 (W0.heap.size) 46 (mbox m true (.slice za0 zn0 zc0) (.slice za1 zn1 zc1) (.slice za2 zn2 zc2) (.slice za3 zn3 zc3) (.slice za4 zn4 zc4) (.slice za5 zn5 zc5) (.slice za6 zn6 zc6) (.slice za7 zn7 zc7))) := XA0_a2.out.kt kt (by decide); clear o g B kt; have q0_3 : wa3.cell? ⟨W0.heap.size, 3, none⟩ = some (.int .u64 (m.id : Nat)) := X0_a3.out.cell 3 _ rfl))
  clear q0_3
  clear LBa2 HBa2 KAa2 SNa2 SRa2 XA0_a2 Ha2 Ka2 X0_a2
  have BDa3 : Hid (La3.length ≤ 30) := (by have e := BDa2.out; have f := ei_len (m.to); have g := congrArg List.length HLa3.out; rw [List.length_append] at g; apply hide; omega)
  clear BDa2
  have LBa3 : Hid (La3.length + (Num.uv (m.id)).length ≤ 140737488355328) := (by have e := BDa3.out; have f := Num.uv_length (m.id); apply hide; omega)
  refine (refuint_any wa3 (m.id) HM.out.id).mono ?_
  rintro e waa3 ⟨vaa3, rfl, oa, ba⟩
  change Owns waa3 _ vaa3 (Num.uv (m.id)) at oa
  obtain ⟨saa3, sca3, rfl, sn, sr⟩ := own_src oa
  have HBa3 : Hid (Bf W0 waa3 va3 La3) := Bf.up Ha3.out ba
  have KAa3 : Hid (KT W0 waa3) := (Ka3.out).trans (KT.of_below ba)
  have XA0_a3 : Hid (BxA waa3 (W0.heap.size) 46 (mbox m true (.slice za0 zn0 zc0) (.slice za1 zn1 zc1) (.slice za2 zn2 zc2) (.slice za3 zn3 zc3) (.slice za4 zn4 zc4) (.slice za5 zn5 zc5) (.slice za6 zn6 zc6) (.slice za7 zn7 zc7))) := X0_a3.out.kt (KT.of_below ba) (by decide)
  have SNa3 : Hid (saa3 = none → (Num.uv (m.id)).length = 0 ∧ sca3 = 0) := sn
  have SRa3 : Hid _ := sr
  clear oa ba sn sr
  go_wp2_with (first | (at_builtin; refine wp_app rfl _ _ rfl W0.heap.size _ La3 (Num.uv (m.id)) rfl HBa3.out.o _ _ _ rfl rfl SNa3.out SRa3.out LBa3.out HBa3.out.b.size ?_; intro va4 wa4 o g; obtain ⟨B, kt⟩ := HBa3.out.app o g; obtain ⟨La4, hL⟩ : ∃ L, L = La3 ++ (Num.uv (m.id)) := ⟨_, rfl⟩; rw [← hL] at B; have HLa4 : Hid (La4 = La3 ++ (Num.uv (m.id))) := hL; clear hL; have Ha4 : Hid (Bf W0 wa4 va4 La4) := B; have Ka4 : Hid (KT W0 wa4) := KAa3.out.trans kt; have X0_a4 : Hid (BxA wa4 (W0.heap.size) 46 (mbox m true (.slice za0 zn0 zc0) (.slice za1 zn1 zc1) (.slice za2 zn2 zc2) (.slice za3 zn3 zc3) (.slice za4 zn4 zc4) (.slice za5 zn5 zc5) (.slice za6 zn6 zc6) (.slice za7 zn7 zc7))) := XA0_a3.out.kt kt (by decide); clear o g B kt; have q0_4 : wa4.cell? ⟨W0.heap.size, 4, none⟩ = some (.int .u64 (m.ask : Nat)) := X0_a4.out.cell 4 _ rfl))
  clear q0_4
  clear LBa3 HBa3 KAa3 SNa3 SRa3 XA0_a3 Ha3 Ka3 X0_a3
  have BDa4 : Hid (La4.length ≤ 40) := (by have e := BDa3.out; have f := Num.uv_length (m.id); have g := congrArg List.length HLa4.out; rw [List.length_append] at g; apply hide; omega)
  clear BDa3
  have LBa4 : Hid (La4.length + (Num.uv (m.ask)).length ≤ 140737488355328) := (by have e := BDa4.out; have f := Num.uv_length (m.ask); apply hide; omega)
  refine (refuint_any wa4 (m.ask) HM.out.ask).mono ?_
  rintro e waa4 ⟨vaa4, rfl, oa, ba⟩
  change Owns waa4 _ vaa4 (Num.uv (m.ask)) at oa
  obtain ⟨saa4, sca4, rfl, sn, sr⟩ := own_src oa
  have HBa4 : Hid (Bf W0 waa4 va4 La4) := Bf.up Ha4.out ba
  have KAa4 : Hid (KT W0 waa4) := (Ka4.out).trans (KT.of_below ba)
  have XA0_a4 : Hid (BxA waa4 (W0.heap.size) 46 (mbox m true (.slice za0 zn0 zc0) (.slice za1 zn1 zc1) (.slice za2 zn2 zc2) (.slice za3 zn3 zc3) (.slice za4 zn4 zc4) (.slice za5 zn5 zc5) (.slice za6 zn6 zc6) (.slice za7 zn7 zc7))) := X0_a4.out.kt (KT.of_below ba) (by decide)
  have SNa4 : Hid (saa4 = none → (Num.uv (m.ask)).length = 0 ∧ sca4 = 0) := sn
  have SRa4 : Hid _ := sr
  clear oa ba sn sr
  go_wp2_with (first | (at_builtin; refine wp_app rfl _ _ rfl W0.heap.size _ La4 (Num.uv (m.ask)) rfl HBa4.out.o _ _ _ rfl rfl SNa4.out SRa4.out LBa4.out HBa4.out.b.size ?_; intro va5 wa5 o g; obtain ⟨B, kt⟩ := HBa4.out.app o g; obtain ⟨La5, hL⟩ : ∃ L, L = La4 ++ (Num.uv (m.ask)) := ⟨_, rfl⟩; rw [← hL] at B; have HLa5 : Hid (La5 = La4 ++ (Num.uv (m.ask))) := hL; clear hL; have Ha5 : Hid (Bf W0 wa5 va5 La5) := B; have Ka5 : Hid (KT W0 wa5) := KAa4.out.trans kt; have X0_a5 : Hid (BxA wa5 (W0.heap.size) 46 (mbox m true (.slice za0 zn0 zc0) (.slice za1 zn1 zc1) (.slice za2 zn2 zc2) (.slice za3 zn3 zc3) (.slice za4 zn4 zc4) (.slice za5 zn5 zc5) (.slice za6 zn6 zc6) (.slice za7 zn7 zc7))) := XA0_a4.out.kt kt (by decide); clear o g B kt; have q0_5 : wa5.cell? ⟨W0.heap.size, 5, none⟩ = some (.int .u64 (m.off : Nat)) := X0_a5.out.cell 5 _ rfl))
  clear q0_5
  clear LBa4 HBa4 KAa4 SNa4 SRa4 XA0_a4 Ha4 Ka4 X0_a4
  have BDa5 : Hid (La5.length ≤ 50) := (by have e := BDa4.out; have f := Num.uv_length (m.ask); have g := congrArg List.length HLa5.out; rw [List.length_append] at g; apply hide; omega)
  clear BDa4
  have LBa5 : Hid (La5.length + (Num.uv (m.off)).length ≤ 140737488355328) := (by have e := BDa5.out; have f := Num.uv_length (m.off); apply hide; omega)
  refine (refuint_any wa5 (m.off) HM.out.off).mono ?_
  rintro e waa5 ⟨vaa5, rfl, oa, ba⟩
  change Owns waa5 _ vaa5 (Num.uv (m.off)) at oa
  obtain ⟨saa5, sca5, rfl, sn, sr⟩ := own_src oa
  have HBa5 : Hid (Bf W0 waa5 va5 La5) := Bf.up Ha5.out ba
  have KAa5 : Hid (KT W0 waa5) := (Ka5.out).trans (KT.of_below ba)
  have XA0_a5 : Hid (BxA waa5 (W0.heap.size) 46 (mbox m true (.slice za0 zn0 zc0) (.slice za1 zn1 zc1) (.slice za2 zn2 zc2) (.slice za3 zn3 zc3) (.slice za4 zn4 zc4) (.slice za5 zn5 zc5) (.slice za6 zn6 zc6) (.slice za7 zn7 zc7))) := X0_a5.out.kt (KT.of_below ba) (by decide)
  have SNa5 : Hid (saa5 = none → (Num.uv (m.off)).length = 0 ∧ sca5 = 0) := sn
  have SRa5 : Hid _ := sr
  clear oa ba sn sr
  go_wp2_with (first | (at_builtin; refine wp_app rfl _ _ rfl W0.heap.size _ La5 (Num.uv (m.off)) rfl HBa5.out.o _ _ _ rfl rfl SNa5.out SRa5.out LBa5.out HBa5.out.b.size ?_; intro va6 wa6 o g; obtain ⟨B, kt⟩ := HBa5.out.app o g; obtain ⟨La6, hL⟩ : ∃ L, L = La5 ++ (Num.uv (m.off)) := ⟨_, rfl⟩; rw [← hL] at B; have HLa6 : Hid (La6 = La5 ++ (Num.uv (m.off))) := hL; clear hL; have Ha6 : Hid (Bf W0 wa6 va6 La6) := B; have Ka6 : Hid (KT W0 wa6) := KAa5.out.trans kt; have X0_a6 : Hid (BxA wa6 (W0.heap.size) 46 (mbox m true (.slice za0 zn0 zc0) (.slice za1 zn1 zc1) (.slice za2 zn2 zc2) (.slice za3 zn3 zc3) (.slice za4 zn4 zc4) (.slice za5 zn5 zc5) (.slice za6 zn6 zc6) (.slice za7 zn7 zc7))) := XA0_a5.out.kt kt (by decide); clear o g B kt; have q0_6 : wa6.cell? ⟨W0.heap.size, 6, none⟩ = some (.int .i64 m.term) := X0_a6.out.cell 6 _ rfl))
  clear q0_6
  clear LBa5 HBa5 KAa5 SNa5 SRa5 XA0_a5 Ha5 Ka5 X0_a5
  have BDa6 : Hid (La6.length ≤ 60) := (by have e := BDa5.out; have f := Num.uv_length (m.off); have g := congrArg List.length HLa6.out; rw [List.length_append] at g; apply hide; omega)
  clear BDa5
  have LBa6 : Hid (La6.length + (ei (m.term)).length ≤ 140737488355328) := (by have e := BDa6.out; have f := ei_len (m.term); apply hide; omega)
  refine (refint_any wa6 (m.term) HM.out.term.1 HM.out.term.2).mono ?_
  rintro e waa6 ⟨vaa6, rfl, oa, ba⟩
  change Owns waa6 _ vaa6 (ei (m.term)) at oa
  obtain ⟨saa6, sca6, rfl, sn, sr⟩ := own_src oa
  have HBa6 : Hid (Bf W0 waa6 va6 La6) := Bf.up Ha6.out ba
  have KAa6 : Hid (KT W0 waa6) := (Ka6.out).trans (KT.of_below ba)
  have XA0_a6 : Hid (BxA waa6 (W0.heap.size) 46 (mbox m true (.slice za0 zn0 zc0) (.slice za1 zn1 zc1) (.slice za2 zn2 zc2) (.slice za3 zn3 zc3) (.slice za4 zn4 zc4) (.slice za5 zn5 zc5) (.slice za6 zn6 zc6) (.slice za7 zn7 zc7))) := X0_a6.out.kt (KT.of_below ba) (by decide)
  have SNa6 : Hid (saa6 = none → (ei (m.term)).length = 0 ∧ sca6 = 0) := sn
  have SRa6 : Hid _ := sr
  clear oa ba sn sr
  go_wp2_with (first | (at_builtin; refine wp_app rfl _ _ rfl W0.heap.size _ La6 (ei (m.term)) rfl HBa6.out.o _ _ _ rfl rfl SNa6.out SRa6.out LBa6.out HBa6.out.b.size ?_; intro va7 wa7 o g; obtain ⟨B, kt⟩ := HBa6.out.app o g; obtain ⟨La7, hL⟩ : ∃ L, L = La6 ++ (ei (m.term)) := ⟨_, rfl⟩; rw [← hL] at B; have HLa7 : Hid (La7 = La6 ++ (ei (m.term))) := hL; clear hL; have Ha7 : Hid (Bf W0 wa7 va7 La7) := B; have Ka7 : Hid (KT W0 wa7) := KAa6.out.trans kt; have X0_a7 : Hid (BxA wa7 (W0.heap.size) 46 (mbox m true (.slice za0 zn0 zc0) (.slice za1 zn1 zc1) (.slice za2 zn2 zc2) (.slice za3 zn3 zc3) (.slice za4 zn4 zc4) (.slice za5 zn5 zc5) (.slice za6 zn6 zc6) (.slice za7 zn7 zc7))) := XA0_a6.out.kt kt (by decide); clear o g B kt; have q0_7 : wa7.cell? ⟨W0.heap.size, 7, none⟩ = some (.int .u64 (m.cnt : Nat)) := X0_a7.out.cell 7 _ rfl))
  clear q0_7
  clear LBa6 HBa6 KAa6 SNa6 SRa6 XA0_a6 Ha6 Ka6 X0_a6
  have BDa7 : Hid (La7.length ≤ 70) := (by have e := BDa6.out; have f := ei_len (m.term); have g := congrArg List.length HLa7.out; rw [List.length_append] at g; apply hide; omega)
  clear BDa6
  have LBa7 : Hid (La7.length + (Num.uv (m.cnt)).length ≤ 140737488355328) := (by have e := BDa7.out; have f := Num.uv_length (m.cnt); apply hide; omega)
  refine (refuint_any wa7 (m.cnt) HM.out.cnt).mono ?_
  rintro e waa7 ⟨vaa7, rfl, oa, ba⟩
  change Owns waa7 _ vaa7 (Num.uv (m.cnt)) at oa
  obtain ⟨saa7, sca7, rfl, sn, sr⟩ := own_src oa
  have HBa7 : Hid (Bf W0 waa7 va7 La7) := Bf.up Ha7.out ba
  have KAa7 : Hid (KT W0 waa7) := (Ka7.out).trans (KT.of_below ba)
  have XA0_a7 : Hid (BxA waa7 (W0.heap.size) 46 (mbox m true (.slice za0 zn0 zc0) (.slice za1 zn1 zc1) (.slice za2 zn2 zc2) (.slice za3 zn3 zc3) (.slice za4 zn4 zc4) (.slice za5 zn5 zc5) (.slice za6 zn6 zc6) (.slice za7 zn7 zc7))) := X0_a7.out.kt (KT.of_below ba) (by decide)
  have SNa7 : Hid (saa7 = none → (Num.uv (m.cnt)).length = 0 ∧ sca7 = 0) := sn
  have SRa7 : Hid _ := sr
  clear oa ba sn sr
  go_wp2_with (first | (at_builtin; refine wp_app rfl _ _ rfl W0.heap.size _ La7 (Num.uv (m.cnt)) rfl HBa7.out.o _ _ _ rfl rfl SNa7.out SRa7.out LBa7.out HBa7.out.b.size ?_; intro va8 wa8 o g; obtain ⟨B, kt⟩ := HBa7.out.app o g; obtain ⟨La8, hL⟩ : ∃ L, L = La7 ++ (Num.uv (m.cnt)) := ⟨_, rfl⟩; rw [← hL] at B; have HLa8 : Hid (La8 = La7 ++ (Num.uv (m.cnt))) := hL; clear hL; have Ha8 : Hid (Bf W0 wa8 va8 La8) := B; have Ka8 : Hid (KT W0 wa8) := KAa7.out.trans kt; have X0_a8 : Hid (BxA wa8 (W0.heap.size) 46 (mbox m true (.slice za0 zn0 zc0) (.slice za1 zn1 zc1) (.slice za2 zn2 zc2) (.slice za3 zn3 zc3) (.slice za4 zn4 zc4) (.slice za5 zn5 zc5) (.slice za6 zn6 zc6) (.slice za7 zn7 zc7))) := XA0_a7.out.kt kt (by decide); clear o g B kt; have q0_8 : wa8.cell? ⟨W0.heap.size, 8, none⟩ = some (.int .i64 m.code) := X0_a8.out.cell 8 _ rfl))
  clear q0_8
  clear LBa7 HBa7 KAa7 SNa7 SRa7 XA0_a7 Ha7 Ka7 X0_a7
  have BDa8 : Hid (La8.length ≤ 80) := (by have e := BDa7.out; have f := Num.uv_length (m.cnt); have g := congrArg List.length HLa8.out; rw [List.length_append] at g; apply hide; omega)
  clear BDa7
  have LBa8 : Hid (La8.length + (ei (m.code)).length ≤ 140737488355328) := (by have e := BDa8.out; have f := ei_len (m.code); apply hide; omega)
  refine (refint_any wa8 (m.code) HM.out.code.1 HM.out.code.2).mono ?_
  rintro e waa8 ⟨vaa8, rfl, oa, ba⟩
  change Owns waa8 _ vaa8 (ei (m.code)) at oa
  obtain ⟨saa8, sca8, rfl, sn, sr⟩ := own_src oa
  have HBa8 : Hid (Bf W0 waa8 va8 La8) := Bf.up Ha8.out ba
  have KAa8 : Hid (KT W0 waa8) := (Ka8.out).trans (KT.of_below ba)
  have XA0_a8 : Hid (BxA waa8 (W0.heap.size) 46 (mbox m true (.slice za0 zn0 zc0) (.slice za1 zn1 zc1) (.slice za2 zn2 zc2) (.slice za3 zn3 zc3) (.slice za4 zn4 zc4) (.slice za5 zn5 zc5) (.slice za6 zn6 zc6) (.slice za7 zn7 zc7))) := X0_a8.out.kt (KT.of_below ba) (by decide)
  have SNa8 : Hid (saa8 = none → (ei (m.code)).length = 0 ∧ sca8 = 0) := sn
  have SRa8 : Hid _ := sr
  clear oa ba sn sr
  go_wp2_with (first | (at_builtin; refine wp_app rfl _ _ rfl W0.heap.size _ La8 (ei (m.code)) rfl HBa8.out.o _ _ _ rfl rfl SNa8.out SRa8.out LBa8.out HBa8.out.b.size ?_; intro va9 wa9 o g; obtain ⟨B, kt⟩ := HBa8.out.app o g; obtain ⟨La9, hL⟩ : ∃ L, L = La8 ++ (ei (m.code)) := ⟨_, rfl⟩; rw [← hL] at B; have HLa9 : Hid (La9 = La8 ++ (ei (m.code))) := hL; clear hL; have Ha9 : Hid (Bf W0 wa9 va9 La9) := B; have Ka9 : Hid (KT W0 wa9) := KAa8.out.trans kt; have X0_a9 : Hid (BxA wa9 (W0.heap.size) 46 (mbox m true (.slice za0 zn0 zc0) (.slice za1 zn1 zc1) (.slice za2 zn2 zc2) (.slice za3 zn3 zc3) (.slice za4 zn4 zc4) (.slice za5 zn5 zc5) (.slice za6 zn6 zc6) (.slice za7 zn7 zc7))) := XA0_a8.out.kt kt (by decide); clear o g B kt; have q0_9 : wa9.cell? ⟨W0.heap.size, 9, none⟩ = some (.int .i64 m.ft) := X0_a9.out.cell 9 _ rfl))
  clear q0_9
  clear LBa8 HBa8 KAa8 SNa8 SRa8 XA0_a8 Ha8 Ka8 X0_a8
  have BDa9 : Hid (La9.length ≤ 90) := (by have e := BDa8.out; have f := ei_len (m.code); have g := congrArg List.length HLa9.out; rw [List.length_append] at g; apply hide; omega)
  clear BDa8
  have LBa9 : Hid (La9.length + (ei (m.ft)).length ≤ 140737488355328) := (by have e := BDa9.out; have f := ei_len (m.ft); apply hide; omega)
  refine (refint_any wa9 (m.ft) HM.out.ft.1 HM.out.ft.2).mono ?_
  rintro e waa9 ⟨vaa9, rfl, oa, ba⟩
  change Owns waa9 _ vaa9 (ei (m.ft)) at oa
  obtain ⟨saa9, sca9, rfl, sn, sr⟩ := own_src oa
  have HBa9 : Hid (Bf W0 waa9 va9 La9) := Bf.up Ha9.out ba
  have KAa9 : Hid (KT W0 waa9) := (Ka9.out).trans (KT.of_below ba)
  have XA0_a9 : Hid (BxA waa9 (W0.heap.size) 46 (mbox m true (.slice za0 zn0 zc0) (.slice za1 zn1 zc1) (.slice za2 zn2 zc2) (.slice za3 zn3 zc3) (.slice za4 zn4 zc4) (.slice za5 zn5 zc5) (.slice za6 zn6 zc6) (.slice za7 zn7 zc7))) := X0_a9.out.kt (KT.of_below ba) (by decide)
  have SNa9 : Hid (saa9 = none → (ei (m.ft)).length = 0 ∧ sca9 = 0) := sn
  have SRa9 : Hid _ := sr
  clear oa ba sn sr
  go_wp2_with (first | (at_builtin; refine wp_app rfl _ _ rfl W0.heap.size _ La9 (ei (m.ft)) rfl HBa9.out.o _ _ _ rfl rfl SNa9.out SRa9.out LBa9.out HBa9.out.b.size ?_; intro va10 wa10 o g; obtain ⟨B, kt⟩ := HBa9.out.app o g; obtain ⟨La10, hL⟩ : ∃ L, L = La9 ++ (ei (m.ft)) := ⟨_, rfl⟩; rw [← hL] at B; have HLa10 : Hid (La10 = La9 ++ (ei (m.ft))) := hL; clear hL; have Ha10 : Hid (Bf W0 wa10 va10 La10) := B; have Ka10 : Hid (KT W0 wa10) := KAa9.out.trans kt; have X0_a10 : Hid (BxA wa10 (W0.heap.size) 46 (mbox m true (.slice za0 zn0 zc0) (.slice za1 zn1 zc1) (.slice za2 zn2 zc2) (.slice za3 zn3 zc3) (.slice za4 zn4 zc4) (.slice za5 zn5 zc5) (.slice za6 zn6 zc6) (.slice za7 zn7 zc7))) := XA0_a9.out.kt kt (by decide); clear o g B kt; have q0_10 : wa10.cell? ⟨W0.heap.size, 10, none⟩ = some (.slice za0 zn0 zc0) := X0_a10.out.cell 10 _ rfl))
  clear q0_10
  clear LBa9 HBa9 KAa9 SNa9 SRa9 XA0_a9 Ha9 Ka9 X0_a9
  have BDa10 : Hid (La10.length ≤ 100) := (by have e := BDa9.out; have f := ei_len (m.ft); have g := congrArg List.length HLa10.out; rw [List.length_append] at g; apply hide; omega)
  clear BDa9
  have LBa10 : Hid (La10.length + (r_txt m.fds).length ≤ 1099511627776) := (by have e := BDa10.out; have f := PT.out; apply hide; omega)
  refine (rtxt W0 wa10 va10 La10 _ m.fds HFD.out HM.out.fdt Ha10.out LBa10.out).mono ?_
  rintro e wa11 ⟨va11, rfl, B, kt⟩
  obtain ⟨La11, hL⟩ : ∃ L, L = La10 ++ (r_txt m.fds) := ⟨_, rfl⟩
  rw [← hL] at B
  have HLa11 : Hid (La11 = La10 ++ (r_txt m.fds)) := hL
  clear hL
  have Ha11 : Hid (Bf W0 wa11 va11 La11) := B
  have Ka11 : Hid (KT W0 wa11) := (Ka10.out).trans kt
  have X0_a11 : Hid (BxA wa11 (W0.heap.size) 46 (mbox m true (.slice za0 zn0 zc0) (.slice za1 zn1 zc1) (.slice za2 zn2 zc2) (.slice za3 zn3 zc3) (.slice za4 zn4 zc4) (.slice za5 zn5 zc5) (.slice za6 zn6 zc6) (.slice za7 zn7 zc7))) := X0_a10.out.kt (kt) (by decide)
  clear B kt
  have q0_11 : wa11.cell? ⟨W0.heap.size, 11, none⟩ = some (.slice za1 zn1 zc1) := X0_a11.out.cell 11 _ rfl
  go_wp2_with fail
  clear q0_11
  clear LBa10 Ha10 Ka10 X0_a10
  have BDa11 : Hid (La11.length ≤ 1073741924) := (by have e := BDa10.out; have f := PT.out; have g := congrArg List.length HLa11.out; rw [List.length_append] at g; apply hide; omega)
  clear BDa10
  have LBa11 : Hid (La11.length + (Num.uv (zn1)).length ≤ 140737488355328) := (by have e := BDa11.out; have f := Num.uv_length (zn1); apply hide; omega)
  refine (refuint_any wa11 (zn1) hu1).mono ?_
  rintro e waa11 ⟨vaa11, rfl, oa, ba⟩
  change Owns waa11 _ vaa11 (Num.uv (zn1)) at oa
  obtain ⟨saa11, sca11, rfl, sn, sr⟩ := own_src oa
  have HBa11 : Hid (Bf W0 waa11 va11 La11) := Bf.up Ha11.out ba
  have KAa11 : Hid (KT W0 waa11) := (Ka11.out).trans (KT.of_below ba)
  have XA0_a11 : Hid (BxA waa11 (W0.heap.size) 46 (mbox m true (.slice za0 zn0 zc0) (.slice za1 zn1 zc1) (.slice za2 zn2 zc2) (.slice za3 zn3 zc3) (.slice za4 zn4 zc4) (.slice za5 zn5 zc5) (.slice za6 zn6 zc6) (.slice za7 zn7 zc7))) := X0_a11.out.kt (KT.of_below ba) (by decide)
  have SNa11 : Hid (saa11 = none → (Num.uv (zn1)).length = 0 ∧ sca11 = 0) := sn
  have SRa11 : Hid _ := sr
  clear oa ba sn sr
  go_wp2_with (first | (at_builtin; refine wp_app rfl _ _ rfl W0.heap.size _ La11 (Num.uv (zn1)) rfl HBa11.out.o _ _ _ rfl rfl SNa11.out SRa11.out LBa11.out HBa11.out.b.size ?_; intro va12 wa12 o g; obtain ⟨B, kt⟩ := HBa11.out.app o g; obtain ⟨La12, hL⟩ : ∃ L, L = La11 ++ (Num.uv (zn1)) := ⟨_, rfl⟩; rw [← hL] at B; have HLa12 : Hid (La12 = La11 ++ (Num.uv (zn1))) := hL; clear hL; have Ha12 : Hid (Bf W0 wa12 va12 La12) := B; have Ka12 : Hid (KT W0 wa12) := KAa11.out.trans kt; have X0_a12 : Hid (BxA wa12 (W0.heap.size) 46 (mbox m true (.slice za0 zn0 zc0) (.slice za1 zn1 zc1) (.slice za2 zn2 zc2) (.slice za3 zn3 zc3) (.slice za4 zn4 zc4) (.slice za5 zn5 zc5) (.slice za6 zn6 zc6) (.slice za7 zn7 zc7))) := XA0_a11.out.kt kt (by decide); clear o g B kt; have q0_11 : wa12.cell? ⟨W0.heap.size, 11, none⟩ = some (.slice za1 zn1 zc1) := X0_a12.out.cell 11 _ rfl))
  clear q0_11
  clear LBa11 HBa11 KAa11 SNa11 SRa11 XA0_a11 Ha11 Ka11 X0_a11
  have BDa12 : Hid (La12.length ≤ 1073741934) := (by have e := BDa11.out; have f := Num.uv_length (zn1); have g := congrArg List.length HLa12.out; rw [List.length_append] at g; apply hide; omega)
  clear BDa11
  go_loopg [4, 5] zn1 (fun kx vb vi wr => ∃ (i : Nat) (x : Value), vi = .int .i64 (i : Int) ∧ x = vb ∧ i ≤ zn1 ∧ zn1 - i ≤ kx ∧ Hid (Bf W0 wr x (La12 ++ (m.fms.take i).flatMap ei)) ∧ Hid (KT W0 wr) ∧ Hid (BxA wr (W0.heap.size) 46 (mbox m true (.slice za0 zn0 zc0) (.slice za1 zn1 zc1) (.slice za2 zn2 zc2) (.slice za3 zn3 zc3) (.slice za4 zn4 zc4) (.slice za5 zn5 zc5) (.slice za6 zn6 zc6) (.slice za7 zn7 zc7))))
  case atStart => exact ⟨0, _, rfl, rfl, by omega, Nat.le_refl _, by apply hide; simpa using Ha12.out, Ka12.out, X0_a12.out⟩
  case round =>
    obtain ⟨i, vrb, rfl, rfl, hib, hkxb, HRb, KRb, XR0b⟩ := hrel
    have q0_11 : wr.cell? ⟨W0.heap.size, 11, none⟩ = some (.slice za1 zn1 zc1) := XR0b.out.cell 11 _ rfl
    by_cases hltb : i < zn1
    · have hltz : (i : Int) < (zn1 : Int) := by omega
      have hilb : i < m.fms.length := by have := HLN1.out; omega
      obtain ⟨bbb, offb, rfl, hblb, hcb⟩ := lst_cell (k := 1) (f := cl_i64) (by decide) (fun _ => rfl) HLS1.out (by omega)
      obtain ⟨Lrb, hLrb⟩ : ∃ L, L = La12 ++ (m.fms.take i).flatMap ei := ⟨_, rfl⟩
      have HLrb : Hid (Lrb = La12 ++ (m.fms.take i).flatMap ei) := hLrb
      have HRRb : Hid (Bf W0 wr vrb Lrb) := by apply hide; rw [hLrb]; exact HRb.out
      have hlen := rl_len ei m.fms i hilb
      have htk := rl_take ei m.fms i hilb
      obtain ⟨yb, hy⟩ : ∃ y, m.fms[i] = y := ⟨_, rfl⟩
      have hymb : yb ∈ m.fms := by rw [← hy]; exact List.getElem_mem hilb
      have Eb0 : Hid (W0.cell? ⟨bbb, offb + i, none⟩ = some (.int .i64 yb)) := by apply hide; have := hcb i hilb 0 (.int .i64 yb) (by omega) (by rw [hy]; rfl); simpa using this
      rw [hy] at hlen htk
      have HTKb : Hid _ := htk
      have HTb : Hid (Lrb.length + (ei yb).length ≤ 1099511627776) := by apply hide; have e := BDa12.out; have e2 := PM.out; rw [hLrb, List.length_append]; omega
      clear hlen htk hcb hLrb hy
      have rb0 : wr.cell? ⟨bbb, offb + i, none⟩ = some (.int .i64 yb) := cup HRRb.out.b Eb0.out
      go_wp2_with fail
      clear q0_11 rb0
      have LBb0 : Hid (Lrb.length + (ei (yb)).length ≤ 140737488355328) := (by have e := HTb.out; apply hide; omega)
      refine (refint_any wr (yb) (HM.out.fmz yb hymb).1 (HM.out.fmz yb hymb).2).mono ?_
      rintro e wab0 ⟨vab0, rfl, oa, ba⟩
      change Owns wab0 _ vab0 (ei (yb)) at oa
      obtain ⟨sab0, scb0, rfl, sn, sr⟩ := own_src oa
      have HBb0 : Hid (Bf W0 wab0 vrb Lrb) := Bf.up HRRb.out ba
      have KAb0 : Hid (KT W0 wab0) := (KRb.out).trans (KT.of_below ba)
      have XA0_b0 : Hid (BxA wab0 (W0.heap.size) 46 (mbox m true (.slice za0 zn0 zc0) (.slice (some ⟨bbb, offb, none⟩) zn1 zc1) (.slice za2 zn2 zc2) (.slice za3 zn3 zc3) (.slice za4 zn4 zc4) (.slice za5 zn5 zc5) (.slice za6 zn6 zc6) (.slice za7 zn7 zc7))) := XR0b.out.kt (KT.of_below ba) (by decide)
      have SNb0 : Hid (sab0 = none → (ei (yb)).length = 0 ∧ scb0 = 0) := sn
      have SRb0 : Hid _ := sr
      clear oa ba sn sr
      go_wp2_with (first | (at_builtin; refine wp_app rfl _ _ rfl W0.heap.size _ Lrb (ei (yb)) rfl HBb0.out.o _ _ _ rfl rfl SNb0.out SRb0.out LBb0.out HBb0.out.b.size ?_; intro vb1 wb1 o g; obtain ⟨B, kt⟩ := HBb0.out.app o g; obtain ⟨Lb1, hL⟩ : ∃ L, L = Lrb ++ (ei (yb)) := ⟨_, rfl⟩; rw [← hL] at B; have HLb1 : Hid (Lb1 = Lrb ++ (ei (yb))) := hL; clear hL; have Hb1 : Hid (Bf W0 wb1 vb1 Lb1) := B; have Kb1 : Hid (KT W0 wb1) := KAb0.out.trans kt; have X0_b1 : Hid (BxA wb1 (W0.heap.size) 46 (mbox m true (.slice za0 zn0 zc0) (.slice (some ⟨bbb, offb, none⟩) zn1 zc1) (.slice za2 zn2 zc2) (.slice za3 zn3 zc3) (.slice za4 zn4 zc4) (.slice za5 zn5 zc5) (.slice za6 zn6 zc6) (.slice za7 zn7 zc7))) := XA0_b0.out.kt kt (by decide); clear o g B kt; have q0_11 : wb1.cell? ⟨W0.heap.size, 11, none⟩ = some (.slice (some ⟨bbb, offb, none⟩) zn1 zc1) := X0_b1.out.cell 11 _ rfl; have rb0 : wb1.cell? ⟨bbb, offb + i, none⟩ = some (.int .i64 yb) := cup Hb1.out.b Eb0.out))
      clear q0_11 rb0
      clear LBb0 HBb0 KAb0 SNb0 SRb0 XA0_b0
      go_roundg (zn1 - (i + 1))
      case measure => omega
      case rel => exact ⟨i + 1, _, by go_num, rfl, by omega, Nat.le_refl _, by apply hide; rw [HTKb.out, ← List.append_assoc, ← HLrb.out]; have e : Lb1 = Lrb ++ ei yb := (by rw [HLb1.out]); rw [← e]; exact Hb1.out, Kb1.out, X0_b1.out⟩
    · have hltz : ¬ (i : Int) < (zn1 : Int) := by omega
      obtain ⟨LXb, hLX⟩ : ∃ L, L = La12 ++ m.fms.flatMap ei := ⟨_, rfl⟩
      have HLXb : Hid (LXb = La12 ++ m.fms.flatMap ei) := hLX
      have HRXb : Hid (Bf W0 wr vrb LXb) := by apply hide; rw [hLX]; have e := HRb.out; rwa [List.take_of_length_le (by have := HLN1.out; omega)] at e
      clear hLX
      have BDXb : Hid (LXb.length ≤ 2147483758) := (by have e := BDa12.out; have f := PM.out; have g := congrArg List.length HLXb.out; rw [List.length_append] at g; apply hide; omega)
      have q0_12 : wr.cell? ⟨W0.heap.size, 12, none⟩ = some (.int .i64 m.q.F) := XR0b.out.cell 12 _ rfl
      have q0_13 : wr.cell? ⟨W0.heap.size, 13, none⟩ = some (.int .i64 m.q.T) := XR0b.out.cell 13 _ rfl
      have q0_14 : wr.cell? ⟨W0.heap.size, 14, none⟩ = some (.int .i64 m.q.t.k) := XR0b.out.cell 14 _ rfl
      have q0_15 : wr.cell? ⟨W0.heap.size, 15, none⟩ = some (.int .i64 m.q.t.d) := XR0b.out.cell 15 _ rfl
      have q0_16 : wr.cell? ⟨W0.heap.size, 16, none⟩ = some (.slice za2 zn2 zc2) := XR0b.out.cell 16 _ rfl
      have q0_17 : wr.cell? ⟨W0.heap.size, 17, none⟩ = some (.int .i64 m.q.t.lo) := XR0b.out.cell 17 _ rfl
      have q0_18 : wr.cell? ⟨W0.heap.size, 18, none⟩ = some (.int .i64 m.q.t.hi) := XR0b.out.cell 18 _ rfl
      have q0_19 : wr.cell? ⟨W0.heap.size, 19, none⟩ = some (.slice za3 zn3 zc3) := XR0b.out.cell 19 _ rfl
      have q0_20 : wr.cell? ⟨W0.heap.size, 20, none⟩ = some (.int .i64 m.q.g) := XR0b.out.cell 20 _ rfl
      have q0_21 : wr.cell? ⟨W0.heap.size, 21, none⟩ = some (.slice za4 zn4 zc4) := XR0b.out.cell 21 _ rfl
      have q0_22 : wr.cell? ⟨W0.heap.size, 22, none⟩ = some (.slice za5 zn5 zc5) := XR0b.out.cell 22 _ rfl
      have q0_23 : wr.cell? ⟨W0.heap.size, 23, none⟩ = some (.int .i64 m.q.G) := XR0b.out.cell 23 _ rfl
      have q0_24 : wr.cell? ⟨W0.heap.size, 24, none⟩ = some (.int .i64 m.q.R) := XR0b.out.cell 24 _ rfl
      go_wp2_with fail
      clear q0_11 q0_12 q0_13 q0_14 q0_15 q0_16 q0_17 q0_18 q0_19 q0_20 q0_21 q0_22 q0_23 q0_24
      have LBc0 : Hid (LXb.length + (r_query m.q).length ≤ 1099511627776) := (by have e := BDXb.out; have f := PQ.out; apply hide; omega)
      refine (HKQ.out wr vrb LXb HRXb.out LBc0.out).mono ?_
      rintro e wc1 ⟨vc1, rfl, B, kt⟩
      obtain ⟨Lc1, hL⟩ : ∃ L, L = LXb ++ (r_query m.q) := ⟨_, rfl⟩
      rw [← hL] at B
      have HLc1 : Hid (Lc1 = LXb ++ (r_query m.q)) := hL
      clear hL
      have Hc1 : Hid (Bf W0 wc1 vc1 Lc1) := B
      have Kc1 : Hid (KT W0 wc1) := (KRb.out).trans kt
      have X0_c1 : Hid (BxA wc1 (W0.heap.size) 46 (mbox m true (.slice za0 zn0 zc0) (.slice za1 zn1 zc1) (.slice za2 zn2 zc2) (.slice za3 zn3 zc3) (.slice za4 zn4 zc4) (.slice za5 zn5 zc5) (.slice za6 zn6 zc6) (.slice za7 zn7 zc7))) := XR0b.out.kt (kt) (by decide)
      clear B kt
      have q0_25 : wc1.cell? ⟨W0.heap.size, 25, none⟩ = some (.int .i64 m.ps.F) := X0_c1.out.cell 25 _ rfl
      have q0_26 : wc1.cell? ⟨W0.heap.size, 26, none⟩ = some (.int .i64 m.ps.T) := X0_c1.out.cell 26 _ rfl
      have q0_27 : wc1.cell? ⟨W0.heap.size, 27, none⟩ = some (.int .i64 m.ps.V) := X0_c1.out.cell 27 _ rfl
      have q0_28 : wc1.cell? ⟨W0.heap.size, 28, none⟩ = some (.int .i64 m.ps.P) := X0_c1.out.cell 28 _ rfl
      have q0_29 : wc1.cell? ⟨W0.heap.size, 29, none⟩ = some (.int .i64 m.ps.C) := X0_c1.out.cell 29 _ rfl
      go_wp2_with fail
      clear q0_25 q0_26 q0_27 q0_28 q0_29
      clear LBc0
      have BDc1 : Hid (Lc1.length ≤ 3221225582) := (by have e := BDXb.out; have f := PQ.out; have g := congrArg List.length HLc1.out; rw [List.length_append] at g; apply hide; omega)
      have LBc1 : Hid (Lc1.length + (r_seg m.ps).length ≤ 1099511627776) := (by have e := BDc1.out; have f := PP.out; apply hide; omega)
      refine (rseg W0 wc1 vc1 Lc1 m.ps HM.out.ps Hc1.out LBc1.out).mono ?_
      rintro e wc2 ⟨vc2, rfl, B, kt⟩
      obtain ⟨Lc2, hL⟩ : ∃ L, L = Lc1 ++ (r_seg m.ps) := ⟨_, rfl⟩
      rw [← hL] at B
      have HLc2 : Hid (Lc2 = Lc1 ++ (r_seg m.ps)) := hL
      clear hL
      have Hc2 : Hid (Bf W0 wc2 vc2 Lc2) := B
      have Kc2 : Hid (KT W0 wc2) := (Kc1.out).trans kt
      have X0_c2 : Hid (BxA wc2 (W0.heap.size) 46 (mbox m true (.slice za0 zn0 zc0) (.slice za1 zn1 zc1) (.slice za2 zn2 zc2) (.slice za3 zn3 zc3) (.slice za4 zn4 zc4) (.slice za5 zn5 zc5) (.slice za6 zn6 zc6) (.slice za7 zn7 zc7))) := X0_c1.out.kt (kt) (by decide)
      clear B kt
      have q0_30 : wc2.cell? ⟨W0.heap.size, 30, none⟩ = some (.int .i64 m.pF) := X0_c2.out.cell 30 _ rfl
      have q0_31 : wc2.cell? ⟨W0.heap.size, 31, none⟩ = some (.int .i64 m.pT) := X0_c2.out.cell 31 _ rfl
      go_wp2_with fail
      clear q0_30 q0_31
      clear LBc1 Hc1 Kc1 X0_c1
      have BDc2 : Hid (Lc2.length ≤ 4294967406) := (by have e := BDc1.out; have f := PP.out; have g := congrArg List.length HLc2.out; rw [List.length_append] at g; apply hide; omega)
      clear BDc1
      have LBc2 : Hid (Lc2.length + (r_span m.pF m.pT).length ≤ 1099511627776) := (by have e := BDc2.out; have f := PS.out; apply hide; omega)
      refine (rspan W0 wc2 vc2 Lc2 m.pF m.pT HM.out.pF HM.out.pT Hc2.out LBc2.out).mono ?_
      rintro e wc3 ⟨vc3, rfl, B, kt⟩
      obtain ⟨Lc3, hL⟩ : ∃ L, L = Lc2 ++ (r_span m.pF m.pT) := ⟨_, rfl⟩
      rw [← hL] at B
      have HLc3 : Hid (Lc3 = Lc2 ++ (r_span m.pF m.pT)) := hL
      clear hL
      have Hc3 : Hid (Bf W0 wc3 vc3 Lc3) := B
      have Kc3 : Hid (KT W0 wc3) := (Kc2.out).trans kt
      have X0_c3 : Hid (BxA wc3 (W0.heap.size) 46 (mbox m true (.slice za0 zn0 zc0) (.slice za1 zn1 zc1) (.slice za2 zn2 zc2) (.slice za3 zn3 zc3) (.slice za4 zn4 zc4) (.slice za5 zn5 zc5) (.slice za6 zn6 zc6) (.slice za7 zn7 zc7))) := X0_c2.out.kt (kt) (by decide)
      clear B kt
      have zq0_32 : wc3.cell? ⟨W0.heap.size, 32, none⟩ = some (.bool true) := X0_c3.out.cell 32 _ rfl
      clear LBc2 Hc2 Kc2 X0_c2
      have BDc3 : Hid (Lc3.length ≤ 5368709230) := (by have e := BDc2.out; have f := PS.out; have g := congrArg List.length HLc3.out; rw [List.length_append] at g; apply hide; omega)
      clear BDc2
      have LBc3 : Hid (Lc3.length + ([1]).length ≤ 140737488355328) := (by have e := BDc3.out; have f := byte_len 1; apply hide; omega)
      go_wp2_with (first | (at_builtin; refine wp_app rfl _ _ rfl W0.heap.size _ Lc3 ([1]) rfl (Bf.alloc Hc3.out _).o _ _ _ rfl rfl (fun h => by cases h) (one_src _ 1) LBc3.out (Bf.alloc Hc3.out _).b.size ?_; intro vc4 wc4 o g; obtain ⟨B, kt⟩ := (Bf.alloc Hc3.out _).app o g; obtain ⟨Lc4, hL⟩ : ∃ L, L = Lc3 ++ ([1]) := ⟨_, rfl⟩; rw [← hL] at B; have HLc4 : Hid (Lc4 = Lc3 ++ ([1])) := hL; clear hL; have Hc4 : Hid (Bf W0 wc4 vc4 Lc4) := B; have Kc4 : Hid (KT W0 wc4) := (Kc3.out).trans ((KT.alloc _ _).trans kt); have X0_c4 : Hid (BxA wc4 (W0.heap.size) 46 (mbox m true (.slice za0 zn0 zc0) (.slice za1 zn1 zc1) (.slice za2 zn2 zc2) (.slice za3 zn3 zc3) (.slice za4 zn4 zc4) (.slice za5 zn5 zc5) (.slice za6 zn6 zc6) (.slice za7 zn7 zc7))) := (X0_c3.out.kt (KT.alloc _ _) (by decide)).kt kt (by decide); clear o g B kt; have q0_33 : wc4.cell? ⟨W0.heap.size, 33, none⟩ = some (.int .i64 m.os.F) := X0_c4.out.cell 33 _ rfl; have q0_34 : wc4.cell? ⟨W0.heap.size, 34, none⟩ = some (.int .i64 m.os.T) := X0_c4.out.cell 34 _ rfl; have q0_35 : wc4.cell? ⟨W0.heap.size, 35, none⟩ = some (.int .i64 m.os.V) := X0_c4.out.cell 35 _ rfl; have q0_36 : wc4.cell? ⟨W0.heap.size, 36, none⟩ = some (.int .i64 m.os.P) := X0_c4.out.cell 36 _ rfl; have q0_37 : wc4.cell? ⟨W0.heap.size, 37, none⟩ = some (.int .i64 m.os.C) := X0_c4.out.cell 37 _ rfl))
      clear q0_33 q0_34 q0_35 q0_36 q0_37 zq0_32
      clear LBc3 Hc3 Kc3 X0_c3
      have BDc4 : Hid (Lc4.length ≤ 5368709231) := (by have e := BDc3.out; have f := byte_len 1; have g := congrArg List.length HLc4.out; rw [List.length_append] at g; apply hide; omega)
      clear BDc3
      have LBc4 : Hid (Lc4.length + (r_seg m.os).length ≤ 1099511627776) := (by have e := BDc4.out; have f := PO.out; apply hide; omega)
      refine (rseg W0 wc4 vc4 Lc4 m.os HM.out.os Hc4.out LBc4.out).mono ?_
      rintro e wc5 ⟨vc5, rfl, B, kt⟩
      obtain ⟨Lc5, hL⟩ : ∃ L, L = Lc4 ++ (r_seg m.os) := ⟨_, rfl⟩
      rw [← hL] at B
      have HLc5 : Hid (Lc5 = Lc4 ++ (r_seg m.os)) := hL
      clear hL
      have Hc5 : Hid (Bf W0 wc5 vc5 Lc5) := B
      have Kc5 : Hid (KT W0 wc5) := (Kc4.out).trans kt
      have X0_c5 : Hid (BxA wc5 (W0.heap.size) 46 (mbox m true (.slice za0 zn0 zc0) (.slice za1 zn1 zc1) (.slice za2 zn2 zc2) (.slice za3 zn3 zc3) (.slice za4 zn4 zc4) (.slice za5 zn5 zc5) (.slice za6 zn6 zc6) (.slice za7 zn7 zc7))) := X0_c4.out.kt (kt) (by decide)
      clear B kt
      have q0_38 : wc5.cell? ⟨W0.heap.size, 38, none⟩ = some (.int .i64 m.on) := X0_c5.out.cell 38 _ rfl
      go_wp2_with fail
      clear q0_38
      clear LBc4 Hc4 Kc4 X0_c4
      have BDc5 : Hid (Lc5.length ≤ 6442451055) := (by have e := BDc4.out; have f := PO.out; have g := congrArg List.length HLc5.out; rw [List.length_append] at g; apply hide; omega)
      clear BDc4
      have LBc5 : Hid (Lc5.length + (ei (m.on)).length ≤ 140737488355328) := (by have e := BDc5.out; have f := ei_len (m.on); apply hide; omega)
      refine (refint_any wc5 (m.on) HM.out.on.1 HM.out.on.2).mono ?_
      rintro e wac5 ⟨vac5, rfl, oa, ba⟩
      change Owns wac5 _ vac5 (ei (m.on)) at oa
      obtain ⟨sac5, scc5, rfl, sn, sr⟩ := own_src oa
      have HBc5 : Hid (Bf W0 wac5 vc5 Lc5) := Bf.up Hc5.out ba
      have KAc5 : Hid (KT W0 wac5) := (Kc5.out).trans (KT.of_below ba)
      have XA0_c5 : Hid (BxA wac5 (W0.heap.size) 46 (mbox m true (.slice za0 zn0 zc0) (.slice za1 zn1 zc1) (.slice za2 zn2 zc2) (.slice za3 zn3 zc3) (.slice za4 zn4 zc4) (.slice za5 zn5 zc5) (.slice za6 zn6 zc6) (.slice za7 zn7 zc7))) := X0_c5.out.kt (KT.of_below ba) (by decide)
      have SNc5 : Hid (sac5 = none → (ei (m.on)).length = 0 ∧ scc5 = 0) := sn
      have SRc5 : Hid _ := sr
      clear oa ba sn sr
      go_wp2_with (first | (at_builtin; refine wp_app rfl _ _ rfl W0.heap.size _ Lc5 (ei (m.on)) rfl HBc5.out.o _ _ _ rfl rfl SNc5.out SRc5.out LBc5.out HBc5.out.b.size ?_; intro vc6 wc6 o g; obtain ⟨B, kt⟩ := HBc5.out.app o g; obtain ⟨Lc6, hL⟩ : ∃ L, L = Lc5 ++ (ei (m.on)) := ⟨_, rfl⟩; rw [← hL] at B; have HLc6 : Hid (Lc6 = Lc5 ++ (ei (m.on))) := hL; clear hL; have Hc6 : Hid (Bf W0 wc6 vc6 Lc6) := B; have Kc6 : Hid (KT W0 wc6) := KAc5.out.trans kt; have X0_c6 : Hid (BxA wc6 (W0.heap.size) 46 (mbox m true (.slice za0 zn0 zc0) (.slice za1 zn1 zc1) (.slice za2 zn2 zc2) (.slice za3 zn3 zc3) (.slice za4 zn4 zc4) (.slice za5 zn5 zc5) (.slice za6 zn6 zc6) (.slice za7 zn7 zc7))) := XA0_c5.out.kt kt (by decide); clear o g B kt; have q0_39 : wc6.cell? ⟨W0.heap.size, 39, none⟩ = some (.slice za6 zn6 zc6) := X0_c6.out.cell 39 _ rfl))
      clear q0_39
      clear LBc5 HBc5 KAc5 SNc5 SRc5 XA0_c5 Hc5 Kc5 X0_c5
      have BDc6 : Hid (Lc6.length ≤ 6442451065) := (by have e := BDc5.out; have f := ei_len (m.on); have g := congrArg List.length HLc6.out; rw [List.length_append] at g; apply hide; omega)
      clear BDc5
      have LBc6 : Hid (Lc6.length + (Num.uv (zn6)).length ≤ 140737488355328) := (by have e := BDc6.out; have f := Num.uv_length (zn6); apply hide; omega)
      refine (refuint_any wc6 (zn6) hu6).mono ?_
      rintro e wac6 ⟨vac6, rfl, oa, ba⟩
      change Owns wac6 _ vac6 (Num.uv (zn6)) at oa
      obtain ⟨sac6, scc6, rfl, sn, sr⟩ := own_src oa
      have HBc6 : Hid (Bf W0 wac6 vc6 Lc6) := Bf.up Hc6.out ba
      have KAc6 : Hid (KT W0 wac6) := (Kc6.out).trans (KT.of_below ba)
      have XA0_c6 : Hid (BxA wac6 (W0.heap.size) 46 (mbox m true (.slice za0 zn0 zc0) (.slice za1 zn1 zc1) (.slice za2 zn2 zc2) (.slice za3 zn3 zc3) (.slice za4 zn4 zc4) (.slice za5 zn5 zc5) (.slice za6 zn6 zc6) (.slice za7 zn7 zc7))) := X0_c6.out.kt (KT.of_below ba) (by decide)
      have SNc6 : Hid (sac6 = none → (Num.uv (zn6)).length = 0 ∧ scc6 = 0) := sn
      have SRc6 : Hid _ := sr
      clear oa ba sn sr
      go_wp2_with (first | (at_builtin; refine wp_app rfl _ _ rfl W0.heap.size _ Lc6 (Num.uv (zn6)) rfl HBc6.out.o _ _ _ rfl rfl SNc6.out SRc6.out LBc6.out HBc6.out.b.size ?_; intro vc7 wc7 o g; obtain ⟨B, kt⟩ := HBc6.out.app o g; obtain ⟨Lc7, hL⟩ : ∃ L, L = Lc6 ++ (Num.uv (zn6)) := ⟨_, rfl⟩; rw [← hL] at B; have HLc7 : Hid (Lc7 = Lc6 ++ (Num.uv (zn6))) := hL; clear hL; have Hc7 : Hid (Bf W0 wc7 vc7 Lc7) := B; have Kc7 : Hid (KT W0 wc7) := KAc6.out.trans kt; have X0_c7 : Hid (BxA wc7 (W0.heap.size) 46 (mbox m true (.slice za0 zn0 zc0) (.slice za1 zn1 zc1) (.slice za2 zn2 zc2) (.slice za3 zn3 zc3) (.slice za4 zn4 zc4) (.slice za5 zn5 zc5) (.slice za6 zn6 zc6) (.slice za7 zn7 zc7))) := XA0_c6.out.kt kt (by decide); clear o g B kt; have q0_39 : wc7.cell? ⟨W0.heap.size, 39, none⟩ = some (.slice za6 zn6 zc6) := X0_c7.out.cell 39 _ rfl))
      clear q0_39
      clear LBc6 HBc6 KAc6 SNc6 SRc6 XA0_c6 Hc6 Kc6 X0_c6
      have BDc7 : Hid (Lc7.length ≤ 6442451075) := (by have e := BDc6.out; have f := Num.uv_length (zn6); have g := congrArg List.length HLc7.out; rw [List.length_append] at g; apply hide; omega)
      clear BDc6
      go_loopg [4, 6] zn6 (fun kx vb vi wr => ∃ (i : Nat) (x : Value), vi = .int .i64 (i : Int) ∧ x = vb ∧ i ≤ zn6 ∧ zn6 - i ≤ kx ∧ Hid (Bf W0 wr x (Lc7 ++ (m.sg.take i).flatMap r_seg)) ∧ Hid (KT W0 wr) ∧ Hid (BxA wr (W0.heap.size) 46 (mbox m true (.slice za0 zn0 zc0) (.slice za1 zn1 zc1) (.slice za2 zn2 zc2) (.slice za3 zn3 zc3) (.slice za4 zn4 zc4) (.slice za5 zn5 zc5) (.slice za6 zn6 zc6) (.slice za7 zn7 zc7))))
      case atStart => exact ⟨0, _, rfl, rfl, by omega, Nat.le_refl _, by apply hide; simpa using Hc7.out, Kc7.out, X0_c7.out⟩
      case round =>
        obtain ⟨i, vrd, rfl, rfl, hid, hkxd, HRd, KRd, XR0d⟩ := hrel
        have q0_39 : wr.cell? ⟨W0.heap.size, 39, none⟩ = some (.slice za6 zn6 zc6) := XR0d.out.cell 39 _ rfl
        by_cases hltd : i < zn6
        · have hltz : (i : Int) < (zn6 : Int) := by omega
          have hild : i < m.sg.length := by have := HLN6.out; omega
          obtain ⟨bbd, offd, rfl, hbld, hcd⟩ := lst_cell (k := 5) (f := cl_seg) (by decide) (fun _ => rfl) HLS6.out (by omega)
          obtain ⟨Lrd, hLrd⟩ : ∃ L, L = Lc7 ++ (m.sg.take i).flatMap r_seg := ⟨_, rfl⟩
          have HLrd : Hid (Lrd = Lc7 ++ (m.sg.take i).flatMap r_seg) := hLrd
          have HRRd : Hid (Bf W0 wr vrd Lrd) := by apply hide; rw [hLrd]; exact HRd.out
          have hlen := rl_len r_seg m.sg i hild
          have htk := rl_take r_seg m.sg i hild
          obtain ⟨yd, hy⟩ : ∃ y, m.sg[i] = y := ⟨_, rfl⟩
          have hymd : yd ∈ m.sg := by rw [← hy]; exact List.getElem_mem hild
          have Ed0 : Hid (W0.cell? ⟨bbd, offd + i * 5, none⟩ = some (.int .i64 yd.F)) := by apply hide; have := hcd i hild 0 (.int .i64 yd.F) (by omega) (by rw [hy]; rfl); simpa [Nat.add_assoc] using this
          have Ed1 : Hid (W0.cell? ⟨bbd, offd + i * 5 + 1, none⟩ = some (.int .i64 yd.T)) := by apply hide; have := hcd i hild 1 (.int .i64 yd.T) (by omega) (by rw [hy]; rfl); simpa [Nat.add_assoc] using this
          have Ed2 : Hid (W0.cell? ⟨bbd, offd + i * 5 + 2, none⟩ = some (.int .i64 yd.V)) := by apply hide; have := hcd i hild 2 (.int .i64 yd.V) (by omega) (by rw [hy]; rfl); simpa [Nat.add_assoc] using this
          have Ed3 : Hid (W0.cell? ⟨bbd, offd + i * 5 + 3, none⟩ = some (.int .i64 yd.P)) := by apply hide; have := hcd i hild 3 (.int .i64 yd.P) (by omega) (by rw [hy]; rfl); simpa [Nat.add_assoc] using this
          have Ed4 : Hid (W0.cell? ⟨bbd, offd + i * 5 + 4, none⟩ = some (.int .i64 yd.C)) := by apply hide; have := hcd i hild 4 (.int .i64 yd.C) (by omega) (by rw [hy]; rfl); simpa [Nat.add_assoc] using this
          rw [hy] at hlen htk
          have HTKd : Hid _ := htk
          have HTd : Hid (Lrd.length + (r_seg yd).length ≤ 1099511627776) := by apply hide; have e := BDc7.out; have e2 := PG.out; rw [hLrd, List.length_append]; omega
          clear hlen htk hcd hLrd hy
          have rd0 : wr.cell? ⟨bbd, offd + i * 5, none⟩ = some (.int .i64 yd.F) := cup HRRd.out.b Ed0.out
          have rd1 : wr.cell? ⟨bbd, offd + i * 5 + 1, none⟩ = some (.int .i64 yd.T) := cup HRRd.out.b Ed1.out
          have rd2 : wr.cell? ⟨bbd, offd + i * 5 + 2, none⟩ = some (.int .i64 yd.V) := cup HRRd.out.b Ed2.out
          have rd3 : wr.cell? ⟨bbd, offd + i * 5 + 3, none⟩ = some (.int .i64 yd.P) := cup HRRd.out.b Ed3.out
          have rd4 : wr.cell? ⟨bbd, offd + i * 5 + 4, none⟩ = some (.int .i64 yd.C) := cup HRRd.out.b Ed4.out
          go_wp2_with fail
          clear q0_39 rd0 rd1 rd2 rd3 rd4
          have LBd0 : Hid (Lrd.length + (r_seg yd).length ≤ 1099511627776) := (by have e := HTd.out; apply hide; omega)
          refine (rseg W0 wr vrd Lrd yd (HM.out.si yd hymd) HRRd.out LBd0.out).mono ?_
          rintro e wd1 ⟨vd1, rfl, B, kt⟩
          obtain ⟨Ld1, hL⟩ : ∃ L, L = Lrd ++ (r_seg yd) := ⟨_, rfl⟩
          rw [← hL] at B
          have HLd1 : Hid (Ld1 = Lrd ++ (r_seg yd)) := hL
          clear hL
          have Hd1 : Hid (Bf W0 wd1 vd1 Ld1) := B
          have Kd1 : Hid (KT W0 wd1) := (KRd.out).trans kt
          have X0_d1 : Hid (BxA wd1 (W0.heap.size) 46 (mbox m true (.slice za0 zn0 zc0) (.slice za1 zn1 zc1) (.slice za2 zn2 zc2) (.slice za3 zn3 zc3) (.slice za4 zn4 zc4) (.slice za5 zn5 zc5) (.slice (some ⟨bbd, offd, none⟩) zn6 zc6) (.slice za7 zn7 zc7))) := XR0d.out.kt (kt) (by decide)
          clear B kt
          have q0_39 : wd1.cell? ⟨W0.heap.size, 39, none⟩ = some (.slice (some ⟨bbd, offd, none⟩) zn6 zc6) := X0_d1.out.cell 39 _ rfl
          have rd0 : wd1.cell? ⟨bbd, offd + i * 5, none⟩ = some (.int .i64 yd.F) := cup Hd1.out.b Ed0.out
          have rd1 : wd1.cell? ⟨bbd, offd + i * 5 + 1, none⟩ = some (.int .i64 yd.T) := cup Hd1.out.b Ed1.out
          have rd2 : wd1.cell? ⟨bbd, offd + i * 5 + 2, none⟩ = some (.int .i64 yd.V) := cup Hd1.out.b Ed2.out
          have rd3 : wd1.cell? ⟨bbd, offd + i * 5 + 3, none⟩ = some (.int .i64 yd.P) := cup Hd1.out.b Ed3.out
          have rd4 : wd1.cell? ⟨bbd, offd + i * 5 + 4, none⟩ = some (.int .i64 yd.C) := cup Hd1.out.b Ed4.out
          go_wp2_with fail
          clear q0_39 rd0 rd1 rd2 rd3 rd4
          clear LBd0
          go_roundg (zn6 - (i + 1))
          case measure => omega
          case rel => exact ⟨i + 1, _, by go_num, rfl, by omega, Nat.le_refl _, by apply hide; rw [HTKd.out, ← List.append_assoc, ← HLrd.out]; have e : Ld1 = Lrd ++ r_seg yd := (by rw [HLd1.out]); rw [← e]; exact Hd1.out, Kd1.out, X0_d1.out⟩
        · have hltz : ¬ (i : Int) < (zn6 : Int) := by omega
          obtain ⟨LXd, hLX⟩ : ∃ L, L = Lc7 ++ m.sg.flatMap r_seg := ⟨_, rfl⟩
          have HLXd : Hid (LXd = Lc7 ++ m.sg.flatMap r_seg) := hLX
          have HRXd : Hid (Bf W0 wr vrd LXd) := by apply hide; rw [hLX]; have e := HRd.out; rwa [List.take_of_length_le (by have := HLN6.out; omega)] at e
          clear hLX
          have BDXd : Hid (LXd.length ≤ 7516192899) := (by have e := BDc7.out; have f := PG.out; have g := congrArg List.length HLXd.out; rw [List.length_append] at g; apply hide; omega)
          have q0_40 : wr.cell? ⟨W0.heap.size, 40, none⟩ = some (.slice za7 zn7 zc7) := XR0d.out.cell 40 _ rfl
          go_wp2_with fail
          clear q0_39 q0_40
          have LBe0 : Hid (LXd.length + (Num.uv (zn7)).length ≤ 140737488355328) := (by have e := BDXd.out; have f := Num.uv_length (zn7); apply hide; omega)
          refine (refuint_any wr (zn7) hu7).mono ?_
          rintro e wae0 ⟨vae0, rfl, oa, ba⟩
          change Owns wae0 _ vae0 (Num.uv (zn7)) at oa
          obtain ⟨sae0, sce0, rfl, sn, sr⟩ := own_src oa
          have HBe0 : Hid (Bf W0 wae0 vrd LXd) := Bf.up HRXd.out ba
          have KAe0 : Hid (KT W0 wae0) := (KRd.out).trans (KT.of_below ba)
          have XA0_e0 : Hid (BxA wae0 (W0.heap.size) 46 (mbox m true (.slice za0 zn0 zc0) (.slice za1 zn1 zc1) (.slice za2 zn2 zc2) (.slice za3 zn3 zc3) (.slice za4 zn4 zc4) (.slice za5 zn5 zc5) (.slice za6 zn6 zc6) (.slice za7 zn7 zc7))) := XR0d.out.kt (KT.of_below ba) (by decide)
          have SNe0 : Hid (sae0 = none → (Num.uv (zn7)).length = 0 ∧ sce0 = 0) := sn
          have SRe0 : Hid _ := sr
          clear oa ba sn sr
          go_wp2_with (first | (at_builtin; refine wp_app rfl _ _ rfl W0.heap.size _ LXd (Num.uv (zn7)) rfl HBe0.out.o _ _ _ rfl rfl SNe0.out SRe0.out LBe0.out HBe0.out.b.size ?_; intro ve1 we1 o g; obtain ⟨B, kt⟩ := HBe0.out.app o g; obtain ⟨Le1, hL⟩ : ∃ L, L = LXd ++ (Num.uv (zn7)) := ⟨_, rfl⟩; rw [← hL] at B; have HLe1 : Hid (Le1 = LXd ++ (Num.uv (zn7))) := hL; clear hL; have He1 : Hid (Bf W0 we1 ve1 Le1) := B; have Ke1 : Hid (KT W0 we1) := KAe0.out.trans kt; have X0_e1 : Hid (BxA we1 (W0.heap.size) 46 (mbox m true (.slice za0 zn0 zc0) (.slice za1 zn1 zc1) (.slice za2 zn2 zc2) (.slice za3 zn3 zc3) (.slice za4 zn4 zc4) (.slice za5 zn5 zc5) (.slice za6 zn6 zc6) (.slice za7 zn7 zc7))) := XA0_e0.out.kt kt (by decide); clear o g B kt; have q0_40 : we1.cell? ⟨W0.heap.size, 40, none⟩ = some (.slice za7 zn7 zc7) := X0_e1.out.cell 40 _ rfl))
          clear q0_40
          clear LBe0 HBe0 KAe0 SNe0 SRe0 XA0_e0
          have BDe1 : Hid (Le1.length ≤ 7516192909) := (by have e := BDXd.out; have f := Num.uv_length (zn7); have g := congrArg List.length HLe1.out; rw [List.length_append] at g; apply hide; omega)
          go_loopg [4, 7] zn7 (fun kx vb vi wr => ∃ (i : Nat) (x : Value), vi = .int .i64 (i : Int) ∧ x = vb ∧ i ≤ zn7 ∧ zn7 - i ≤ kx ∧ Hid (Bf W0 wr x (Le1 ++ (m.gp.take i).flatMap r_grp)) ∧ Hid (KT W0 wr) ∧ Hid (BxA wr (W0.heap.size) 46 (mbox m true (.slice za0 zn0 zc0) (.slice za1 zn1 zc1) (.slice za2 zn2 zc2) (.slice za3 zn3 zc3) (.slice za4 zn4 zc4) (.slice za5 zn5 zc5) (.slice za6 zn6 zc6) (.slice za7 zn7 zc7))))
          case atStart => exact ⟨0, _, rfl, rfl, by omega, Nat.le_refl _, by apply hide; simpa using He1.out, Ke1.out, X0_e1.out⟩
          case round =>
            obtain ⟨i, vrf, rfl, rfl, hif, hkxf, HRf, KRf, XR0f⟩ := hrel
            have q0_40 : wr.cell? ⟨W0.heap.size, 40, none⟩ = some (.slice za7 zn7 zc7) := XR0f.out.cell 40 _ rfl
            by_cases hltf : i < zn7
            · have hltz : (i : Int) < (zn7 : Int) := by omega
              have hilf : i < m.gp.length := by have := HLN7.out; omega
              obtain ⟨bbf, offf, rfl, hblf, hcf⟩ := lst_cell (k := 4) (f := cl_grp) (by decide) (fun _ => rfl) HLS7.out (by omega)
              obtain ⟨Lrf, hLrf⟩ : ∃ L, L = Le1 ++ (m.gp.take i).flatMap r_grp := ⟨_, rfl⟩
              have HLrf : Hid (Lrf = Le1 ++ (m.gp.take i).flatMap r_grp) := hLrf
              have HRRf : Hid (Bf W0 wr vrf Lrf) := by apply hide; rw [hLrf]; exact HRf.out
              have hlen := rl_len r_grp m.gp i hilf
              have htk := rl_take r_grp m.gp i hilf
              obtain ⟨yf, hy⟩ : ∃ y, m.gp[i] = y := ⟨_, rfl⟩
              have hymf : yf ∈ m.gp := by rw [← hy]; exact List.getElem_mem hilf
              have Ef0 : Hid (W0.cell? ⟨bbf, offf + i * 4, none⟩ = some (.int .i64 yf.s)) := by apply hide; have := hcf i hilf 0 (.int .i64 yf.s) (by omega) (by rw [hy]; rfl); simpa [Nat.add_assoc] using this
              have Ef1 : Hid (W0.cell? ⟨bbf, offf + i * 4 + 1, none⟩ = some (.int .i64 yf.b)) := by apply hide; have := hcf i hilf 1 (.int .i64 yf.b) (by omega) (by rw [hy]; rfl); simpa [Nat.add_assoc] using this
              have Ef2 : Hid (W0.cell? ⟨bbf, offf + i * 4 + 2, none⟩ = some (yf.dv)) := by apply hide; have := hcf i hilf 2 (yf.dv) (by omega) (by rw [hy]; rfl); simpa [Nat.add_assoc] using this
              have Ef3 : Hid (W0.cell? ⟨bbf, offf + i * 4 + 3, none⟩ = some (yf.pv)) := by apply hide; have := hcf i hilf 3 (yf.pv) (by omega) (by rw [hy]; rfl); simpa [Nat.add_assoc] using this
              rw [hy] at hlen htk
              have HTKf : Hid _ := htk
              have HTf : Hid (Lrf.length + (r_grp yf).length ≤ 1099511627776) := by apply hide; have e := BDe1.out; have e2 := PR.out; rw [hLrf, List.length_append]; omega
              clear hlen htk hcf hLrf hy
              have gok := HM.out.go yf hymf
              obtain ⟨ga0, gc0, ge0, -, -⟩ := gok.r.sl
              obtain ⟨ga1, gc1, ge1, gl1, gh1⟩ := gok.p.sl
              unfold maxLen at gh1
              have gRr := gok.r
              have gPp := gok.p
              obtain ⟨gn0, hgn0⟩ : ∃ n, n = yf.ds.length := ⟨_, rfl⟩
              obtain ⟨gn1, hgn1⟩ : ∃ n, n = yf.ps.length := ⟨_, rfl⟩
              rw [← hgn0] at ge0
              rw [← hgn1] at ge1 gl1
              rw [ge0] at gRr Ef2
              rw [ge1] at gPp Ef3
              have HGR : Hid (Lst 1 cl_str W0 (.slice ga0 gn0 gc0) yf.ds) := gRr
              have HLSP : Hid (Lst 3 cl_prt W0 (.slice ga1 gn1 gc1) yf.ps) := gPp
              have HLNP : Hid (gn1 = yf.ps.length) := hgn1
              have HGO : Aside (yf.Ok W0) := gok
              have hug : gn1 < 18446744073709551616 := by omega
              clear gok ge0 ge1 gRr gPp hgn0 hgn1
              have rf0 : wr.cell? ⟨bbf, offf + i * 4, none⟩ = some (.int .i64 yf.s) := cup HRRf.out.b Ef0.out
              have rf1 : wr.cell? ⟨bbf, offf + i * 4 + 1, none⟩ = some (.int .i64 yf.b) := cup HRRf.out.b Ef1.out
              have rf2 : wr.cell? ⟨bbf, offf + i * 4 + 2, none⟩ = some (.slice ga0 gn0 gc0) := cup HRRf.out.b Ef2.out
              have rf3 : wr.cell? ⟨bbf, offf + i * 4 + 3, none⟩ = some (.slice ga1 gn1 gc1) := cup HRRf.out.b Ef3.out
              obtain ⟨gB, hgB⟩ : ∃ g, g = wr.heap.size := ⟨_, rfl⟩
              have HGB : Hid (gB = wr.heap.size) := hgB
              clear hgB
              go_wp2_with fail
              rw [← HGB.out]
              clear q0_40 rf0 rf1 rf2 rf3
              have XG0 : Hid (BxA (wr.alloc (.cells #[.int .i64 yf.s, .int .i64 yf.b, .slice ga0 gn0 gc0, .slice ga1 gn1 gc1] 77)) gB 77 #[.int .i64 yf.s, .int .i64 yf.b, .slice ga0 gn0 gc0, .slice ga1 gn1 gc1]) := by apply hide; rw [HGB.out]; exact BxA.new _ _ _
              have LBg0 : Hid (Lrf.length + (ei (yf.s)).length ≤ 140737488355328) := (by have e := HTf.out; simp only [r_grp, List.length_append] at e; simp only [← HLNP.out] at e; apply hide; omega)
              refine (refint_any _ (yf.s) HGO.out.s.1 HGO.out.s.2).mono ?_
              rintro e wag0 ⟨vag0, rfl, oa, ba⟩
              change Owns wag0 _ vag0 (ei (yf.s)) at oa
              obtain ⟨sag0, scg0, rfl, sn, sr⟩ := own_src oa
              have HBg0 : Hid (Bf W0 wag0 vrf Lrf) := Bf.up (HRRf.out.alloc _) ba
              have KAg0 : Hid (KT W0 wag0) := ((KRf.out).trans (KT.alloc _ _)).trans (KT.of_below ba)
              have XA0_g0 : Hid (BxA wag0 (W0.heap.size) 46 (mbox m true (.slice za0 zn0 zc0) (.slice za1 zn1 zc1) (.slice za2 zn2 zc2) (.slice za3 zn3 zc3) (.slice za4 zn4 zc4) (.slice za5 zn5 zc5) (.slice za6 zn6 zc6) (.slice (some ⟨bbf, offf, none⟩) zn7 zc7))) := (XR0f.out.kt (KT.alloc _ _) (by decide)).kt (KT.of_below ba) (by decide)
              have XA1_g0 : Hid (BxA wag0 (gB) 77 #[.int .i64 yf.s, .int .i64 yf.b, .slice ga0 gn0 gc0, .slice ga1 gn1 gc1]) := by apply hide; simpa using (XG0.out).kt (KT.of_below ba) (by decide)
              have SNg0 : Hid (sag0 = none → (ei (yf.s)).length = 0 ∧ scg0 = 0) := sn
              have SRg0 : Hid _ := sr
              clear oa ba sn sr
              go_wp2_with (first | (at_builtin; refine wp_app rfl _ _ rfl W0.heap.size _ Lrf (ei (yf.s)) rfl HBg0.out.o _ _ _ rfl rfl SNg0.out SRg0.out LBg0.out HBg0.out.b.size ?_; intro vg1 wg1 o g; obtain ⟨B, kt⟩ := HBg0.out.app o g; obtain ⟨Lg1, hL⟩ : ∃ L, L = Lrf ++ (ei (yf.s)) := ⟨_, rfl⟩; rw [← hL] at B; have HLg1 : Hid (Lg1 = Lrf ++ (ei (yf.s))) := hL; clear hL; have Hg1 : Hid (Bf W0 wg1 vg1 Lg1) := B; have Kg1 : Hid (KT W0 wg1) := KAg0.out.trans kt; have X0_g1 : Hid (BxA wg1 (W0.heap.size) 46 (mbox m true (.slice za0 zn0 zc0) (.slice za1 zn1 zc1) (.slice za2 zn2 zc2) (.slice za3 zn3 zc3) (.slice za4 zn4 zc4) (.slice za5 zn5 zc5) (.slice za6 zn6 zc6) (.slice (some ⟨bbf, offf, none⟩) zn7 zc7))) := XA0_g0.out.kt kt (by decide); have X1_g1 : Hid (BxA wg1 (gB) 77 #[.int .i64 yf.s, .int .i64 yf.b, .slice ga0 gn0 gc0, .slice ga1 gn1 gc1]) := XA1_g0.out.kt kt (by decide); clear o g B kt; have q0_40 : wg1.cell? ⟨W0.heap.size, 40, none⟩ = some (.slice (some ⟨bbf, offf, none⟩) zn7 zc7) := X0_g1.out.cell 40 _ rfl; have q1_0 : wg1.cell? ⟨gB, 0, none⟩ = some (.int .i64 yf.s) := X1_g1.out.cell 0 _ rfl; have q1_1 : wg1.cell? ⟨gB, 1, none⟩ = some (.int .i64 yf.b) := X1_g1.out.cell 1 _ rfl; have q1_2 : wg1.cell? ⟨gB, 2, none⟩ = some (.slice ga0 gn0 gc0) := X1_g1.out.cell 2 _ rfl; have q1_3 : wg1.cell? ⟨gB, 3, none⟩ = some (.slice ga1 gn1 gc1) := X1_g1.out.cell 3 _ rfl; have rf0 : wg1.cell? ⟨bbf, offf + i * 4, none⟩ = some (.int .i64 yf.s) := cup Hg1.out.b Ef0.out; have rf1 : wg1.cell? ⟨bbf, offf + i * 4 + 1, none⟩ = some (.int .i64 yf.b) := cup Hg1.out.b Ef1.out; have rf2 : wg1.cell? ⟨bbf, offf + i * 4 + 2, none⟩ = some (.slice ga0 gn0 gc0) := cup Hg1.out.b Ef2.out; have rf3 : wg1.cell? ⟨bbf, offf + i * 4 + 3, none⟩ = some (.slice ga1 gn1 gc1) := cup Hg1.out.b Ef3.out))
              clear q0_40 q1_0 q1_1 q1_2 q1_3 rf0 rf1 rf2 rf3
              clear LBg0 HBg0 KAg0 SNg0 SRg0 XA0_g0 XA1_g0
              have LBg1 : Hid (Lg1.length + (ei (yf.b)).length ≤ 140737488355328) := (by have e := HTf.out; simp only [r_grp, List.length_append] at e; simp only [← HLNP.out] at e; have e0 := congrArg List.length HLg1.out; simp only [List.length_append] at e0; apply hide; omega)
              refine (refint_any wg1 (yf.b) HGO.out.b.1 HGO.out.b.2).mono ?_
              rintro e wag1 ⟨vag1, rfl, oa, ba⟩
              change Owns wag1 _ vag1 (ei (yf.b)) at oa
              obtain ⟨sag1, scg1, rfl, sn, sr⟩ := own_src oa
              have HBg1 : Hid (Bf W0 wag1 vg1 Lg1) := Bf.up Hg1.out ba
              have KAg1 : Hid (KT W0 wag1) := (Kg1.out).trans (KT.of_below ba)
              have XA0_g1 : Hid (BxA wag1 (W0.heap.size) 46 (mbox m true (.slice za0 zn0 zc0) (.slice za1 zn1 zc1) (.slice za2 zn2 zc2) (.slice za3 zn3 zc3) (.slice za4 zn4 zc4) (.slice za5 zn5 zc5) (.slice za6 zn6 zc6) (.slice (some ⟨bbf, offf, none⟩) zn7 zc7))) := X0_g1.out.kt (KT.of_below ba) (by decide)
              have XA1_g1 : Hid (BxA wag1 (gB) 77 #[.int .i64 yf.s, .int .i64 yf.b, .slice ga0 gn0 gc0, .slice ga1 gn1 gc1]) := by apply hide; simpa using (X1_g1.out).kt (KT.of_below ba) (by decide)
              have SNg1 : Hid (sag1 = none → (ei (yf.b)).length = 0 ∧ scg1 = 0) := sn
              have SRg1 : Hid _ := sr
              clear oa ba sn sr
              go_wp2_with (first | (at_builtin; refine wp_app rfl _ _ rfl W0.heap.size _ Lg1 (ei (yf.b)) rfl HBg1.out.o _ _ _ rfl rfl SNg1.out SRg1.out LBg1.out HBg1.out.b.size ?_; intro vg2 wg2 o g; obtain ⟨B, kt⟩ := HBg1.out.app o g; obtain ⟨Lg2, hL⟩ : ∃ L, L = Lg1 ++ (ei (yf.b)) := ⟨_, rfl⟩; rw [← hL] at B; have HLg2 : Hid (Lg2 = Lg1 ++ (ei (yf.b))) := hL; clear hL; have Hg2 : Hid (Bf W0 wg2 vg2 Lg2) := B; have Kg2 : Hid (KT W0 wg2) := KAg1.out.trans kt; have X0_g2 : Hid (BxA wg2 (W0.heap.size) 46 (mbox m true (.slice za0 zn0 zc0) (.slice za1 zn1 zc1) (.slice za2 zn2 zc2) (.slice za3 zn3 zc3) (.slice za4 zn4 zc4) (.slice za5 zn5 zc5) (.slice za6 zn6 zc6) (.slice (some ⟨bbf, offf, none⟩) zn7 zc7))) := XA0_g1.out.kt kt (by decide); have X1_g2 : Hid (BxA wg2 (gB) 77 #[.int .i64 yf.s, .int .i64 yf.b, .slice ga0 gn0 gc0, .slice ga1 gn1 gc1]) := XA1_g1.out.kt kt (by decide); clear o g B kt; have q0_40 : wg2.cell? ⟨W0.heap.size, 40, none⟩ = some (.slice (some ⟨bbf, offf, none⟩) zn7 zc7) := X0_g2.out.cell 40 _ rfl; have q1_0 : wg2.cell? ⟨gB, 0, none⟩ = some (.int .i64 yf.s) := X1_g2.out.cell 0 _ rfl; have q1_1 : wg2.cell? ⟨gB, 1, none⟩ = some (.int .i64 yf.b) := X1_g2.out.cell 1 _ rfl; have q1_2 : wg2.cell? ⟨gB, 2, none⟩ = some (.slice ga0 gn0 gc0) := X1_g2.out.cell 2 _ rfl; have q1_3 : wg2.cell? ⟨gB, 3, none⟩ = some (.slice ga1 gn1 gc1) := X1_g2.out.cell 3 _ rfl; have rf0 : wg2.cell? ⟨bbf, offf + i * 4, none⟩ = some (.int .i64 yf.s) := cup Hg2.out.b Ef0.out; have rf1 : wg2.cell? ⟨bbf, offf + i * 4 + 1, none⟩ = some (.int .i64 yf.b) := cup Hg2.out.b Ef1.out; have rf2 : wg2.cell? ⟨bbf, offf + i * 4 + 2, none⟩ = some (.slice ga0 gn0 gc0) := cup Hg2.out.b Ef2.out; have rf3 : wg2.cell? ⟨bbf, offf + i * 4 + 3, none⟩ = some (.slice ga1 gn1 gc1) := cup Hg2.out.b Ef3.out))
              clear q0_40 q1_0 q1_1 q1_2 q1_3 rf0 rf1 rf2 rf3
              clear LBg1 HBg1 KAg1 SNg1 SRg1 XA0_g1 XA1_g1 Hg1 Kg1 X0_g1 X1_g1
              have LBg2 : Hid (Lg2.length + (r_txt yf.ds).length ≤ 1099511627776) := (by have e := HTf.out; simp only [r_grp, List.length_append] at e; simp only [← HLNP.out] at e; have e0 := congrArg List.length HLg1.out; simp only [List.length_append] at e0; have e1 := congrArg List.length HLg2.out; simp only [List.length_append] at e1; apply hide; omega)
              refine (rtxt W0 wg2 vg2 Lg2 _ yf.ds HGR.out HGO.out.t Hg2.out LBg2.out).mono ?_
              rintro e wg3 ⟨vg3, rfl, B, kt⟩
              obtain ⟨Lg3, hL⟩ : ∃ L, L = Lg2 ++ (r_txt yf.ds) := ⟨_, rfl⟩
              rw [← hL] at B
              have HLg3 : Hid (Lg3 = Lg2 ++ (r_txt yf.ds)) := hL
              clear hL
              have Hg3 : Hid (Bf W0 wg3 vg3 Lg3) := B
              have Kg3 : Hid (KT W0 wg3) := (Kg2.out).trans kt
              have X0_g3 : Hid (BxA wg3 (W0.heap.size) 46 (mbox m true (.slice za0 zn0 zc0) (.slice za1 zn1 zc1) (.slice za2 zn2 zc2) (.slice za3 zn3 zc3) (.slice za4 zn4 zc4) (.slice za5 zn5 zc5) (.slice za6 zn6 zc6) (.slice (some ⟨bbf, offf, none⟩) zn7 zc7))) := X0_g2.out.kt (kt) (by decide)
              have X1_g3 : Hid (BxA wg3 (gB) 77 #[.int .i64 yf.s, .int .i64 yf.b, .slice ga0 gn0 gc0, .slice ga1 gn1 gc1]) := by apply hide; simpa using (X1_g2.out).kt (kt) (by decide)
              clear B kt
              have q0_40 : wg3.cell? ⟨W0.heap.size, 40, none⟩ = some (.slice (some ⟨bbf, offf, none⟩) zn7 zc7) := X0_g3.out.cell 40 _ rfl
              have q1_0 : wg3.cell? ⟨gB, 0, none⟩ = some (.int .i64 yf.s) := X1_g3.out.cell 0 _ rfl
              have q1_1 : wg3.cell? ⟨gB, 1, none⟩ = some (.int .i64 yf.b) := X1_g3.out.cell 1 _ rfl
              have q1_2 : wg3.cell? ⟨gB, 2, none⟩ = some (.slice ga0 gn0 gc0) := X1_g3.out.cell 2 _ rfl
              have q1_3 : wg3.cell? ⟨gB, 3, none⟩ = some (.slice ga1 gn1 gc1) := X1_g3.out.cell 3 _ rfl
              have rf0 : wg3.cell? ⟨bbf, offf + i * 4, none⟩ = some (.int .i64 yf.s) := cup Hg3.out.b Ef0.out
              have rf1 : wg3.cell? ⟨bbf, offf + i * 4 + 1, none⟩ = some (.int .i64 yf.b) := cup Hg3.out.b Ef1.out
              have rf2 : wg3.cell? ⟨bbf, offf + i * 4 + 2, none⟩ = some (.slice ga0 gn0 gc0) := cup Hg3.out.b Ef2.out
              have rf3 : wg3.cell? ⟨bbf, offf + i * 4 + 3, none⟩ = some (.slice ga1 gn1 gc1) := cup Hg3.out.b Ef3.out
              go_wp2_with fail
              clear q0_40 q1_0 q1_1 q1_2 q1_3 rf0 rf1 rf2 rf3
              clear LBg2 Hg2 Kg2 X0_g2 X1_g2
              have LBg3 : Hid (Lg3.length + (Num.uv (gn1)).length ≤ 140737488355328) := (by have e := HTf.out; simp only [r_grp, List.length_append] at e; simp only [← HLNP.out] at e; have e0 := congrArg List.length HLg1.out; simp only [List.length_append] at e0; have e1 := congrArg List.length HLg2.out; simp only [List.length_append] at e1; have e2 := congrArg List.length HLg3.out; simp only [List.length_append] at e2; apply hide; omega)
              refine (refuint_any wg3 (gn1) hug).mono ?_
              rintro e wag3 ⟨vag3, rfl, oa, ba⟩
              change Owns wag3 _ vag3 (Num.uv (gn1)) at oa
              obtain ⟨sag3, scg3, rfl, sn, sr⟩ := own_src oa
              have HBg3 : Hid (Bf W0 wag3 vg3 Lg3) := Bf.up Hg3.out ba
              have KAg3 : Hid (KT W0 wag3) := (Kg3.out).trans (KT.of_below ba)
              have XA0_g3 : Hid (BxA wag3 (W0.heap.size) 46 (mbox m true (.slice za0 zn0 zc0) (.slice za1 zn1 zc1) (.slice za2 zn2 zc2) (.slice za3 zn3 zc3) (.slice za4 zn4 zc4) (.slice za5 zn5 zc5) (.slice za6 zn6 zc6) (.slice (some ⟨bbf, offf, none⟩) zn7 zc7))) := X0_g3.out.kt (KT.of_below ba) (by decide)
              have XA1_g3 : Hid (BxA wag3 (gB) 77 #[.int .i64 yf.s, .int .i64 yf.b, .slice ga0 gn0 gc0, .slice ga1 gn1 gc1]) := by apply hide; simpa using (X1_g3.out).kt (KT.of_below ba) (by decide)
              have SNg3 : Hid (sag3 = none → (Num.uv (gn1)).length = 0 ∧ scg3 = 0) := sn
              have SRg3 : Hid _ := sr
              clear oa ba sn sr
              go_wp2_with (first | (at_builtin; refine wp_app rfl _ _ rfl W0.heap.size _ Lg3 (Num.uv (gn1)) rfl HBg3.out.o _ _ _ rfl rfl SNg3.out SRg3.out LBg3.out HBg3.out.b.size ?_; intro vg4 wg4 o g; obtain ⟨B, kt⟩ := HBg3.out.app o g; obtain ⟨Lg4, hL⟩ : ∃ L, L = Lg3 ++ (Num.uv (gn1)) := ⟨_, rfl⟩; rw [← hL] at B; have HLg4 : Hid (Lg4 = Lg3 ++ (Num.uv (gn1))) := hL; clear hL; have Hg4 : Hid (Bf W0 wg4 vg4 Lg4) := B; have Kg4 : Hid (KT W0 wg4) := KAg3.out.trans kt; have X0_g4 : Hid (BxA wg4 (W0.heap.size) 46 (mbox m true (.slice za0 zn0 zc0) (.slice za1 zn1 zc1) (.slice za2 zn2 zc2) (.slice za3 zn3 zc3) (.slice za4 zn4 zc4) (.slice za5 zn5 zc5) (.slice za6 zn6 zc6) (.slice (some ⟨bbf, offf, none⟩) zn7 zc7))) := XA0_g3.out.kt kt (by decide); have X1_g4 : Hid (BxA wg4 (gB) 77 #[.int .i64 yf.s, .int .i64 yf.b, .slice ga0 gn0 gc0, .slice ga1 gn1 gc1]) := XA1_g3.out.kt kt (by decide); clear o g B kt))
              clear LBg3 HBg3 KAg3 SNg3 SRg3 XA0_g3 XA1_g3 Hg3 Kg3 X0_g3 X1_g3
              go_loopg [4, 9] gn1 (fun kx vb vi wr => ∃ (k : Nat) (x : Value), vi = .int .i64 (k : Int) ∧ x = vb ∧ k ≤ gn1 ∧ gn1 - k ≤ kx ∧ Hid (Bf W0 wr x (Lg4 ++ (yf.ps.take k).flatMap r_prt)) ∧ Hid (KT W0 wr) ∧ Hid (BxA wr (W0.heap.size) 46 (mbox m true (.slice za0 zn0 zc0) (.slice za1 zn1 zc1) (.slice za2 zn2 zc2) (.slice za3 zn3 zc3) (.slice za4 zn4 zc4) (.slice za5 zn5 zc5) (.slice za6 zn6 zc6) (.slice (some ⟨bbf, offf, none⟩) zn7 zc7))) ∧ Hid (BxA wr (gB) 77 #[.int .i64 yf.s, .int .i64 yf.b, .slice ga0 gn0 gc0, .slice ga1 gn1 gc1]))
              case atStart => exact ⟨0, _, rfl, rfl, by omega, Nat.le_refl _, by apply hide; simpa using Hg4.out, Kg4.out, X0_g4.out, X1_g4.out⟩
              case round =>
                obtain ⟨k, vrh, rfl, rfl, hih, hkxh, HRh, KRh, XR0h, XR1h⟩ := hrel
                have q0_40 : wr.cell? ⟨W0.heap.size, 40, none⟩ = some (.slice (some ⟨bbf, offf, none⟩) zn7 zc7) := XR0h.out.cell 40 _ rfl
                have q1_0 : wr.cell? ⟨gB, 0, none⟩ = some (.int .i64 yf.s) := XR1h.out.cell 0 _ rfl
                have q1_1 : wr.cell? ⟨gB, 1, none⟩ = some (.int .i64 yf.b) := XR1h.out.cell 1 _ rfl
                have q1_2 : wr.cell? ⟨gB, 2, none⟩ = some (.slice ga0 gn0 gc0) := XR1h.out.cell 2 _ rfl
                have q1_3 : wr.cell? ⟨gB, 3, none⟩ = some (.slice ga1 gn1 gc1) := XR1h.out.cell 3 _ rfl
                have rf0 : wr.cell? ⟨bbf, offf + i * 4, none⟩ = some (.int .i64 yf.s) := cup HRh.out.b Ef0.out
                have rf1 : wr.cell? ⟨bbf, offf + i * 4 + 1, none⟩ = some (.int .i64 yf.b) := cup HRh.out.b Ef1.out
                have rf2 : wr.cell? ⟨bbf, offf + i * 4 + 2, none⟩ = some (.slice ga0 gn0 gc0) := cup HRh.out.b Ef2.out
                have rf3 : wr.cell? ⟨bbf, offf + i * 4 + 3, none⟩ = some (.slice ga1 gn1 gc1) := cup HRh.out.b Ef3.out
                by_cases hlth : k < gn1
                · have hltz : (k : Int) < (gn1 : Int) := by omega
                  have hilh : k < yf.ps.length := by have := HLNP.out; omega
                  obtain ⟨bbh, offh, rfl, hblh, hch⟩ := lst_cell (k := 3) (f := cl_prt) (by decide) (fun _ => rfl) HLSP.out (by omega)
                  obtain ⟨Lrh, hLrh⟩ : ∃ L, L = Lg4 ++ (yf.ps.take k).flatMap r_prt := ⟨_, rfl⟩
                  have HLrh : Hid (Lrh = Lg4 ++ (yf.ps.take k).flatMap r_prt) := hLrh
                  have HRRh : Hid (Bf W0 wr vrh Lrh) := by apply hide; rw [hLrh]; exact HRh.out
                  have hlen := rl_len r_prt yf.ps k hilh
                  have htk := rl_take r_prt yf.ps k hilh
                  obtain ⟨yh, hy⟩ : ∃ y, yf.ps[k] = y := ⟨_, rfl⟩
                  have hymh : yh ∈ yf.ps := by rw [← hy]; exact List.getElem_mem hilh
                  have Eh0 : Hid (W0.cell? ⟨bbh, offh + k * 3, none⟩ = some (.int .u64 (yh.n : Nat))) := by apply hide; have := hch k hilh 0 (.int .u64 (yh.n : Nat)) (by omega) (by rw [hy]; rfl); simpa [Nat.add_assoc] using this
                  have Eh1 : Hid (W0.cell? ⟨bbh, offh + k * 3 + 1, none⟩ = some (.int .i64 yh.v)) := by apply hide; have := hch k hilh 1 (.int .i64 yh.v) (by omega) (by rw [hy]; rfl); simpa [Nat.add_assoc] using this
                  have Eh2 : Hid (W0.cell? ⟨bbh, offh + k * 3 + 2, none⟩ = some (yh.tv)) := by apply hide; have := hch k hilh 2 (yh.tv) (by omega) (by rw [hy]; rfl); simpa [Nat.add_assoc] using this
                  rw [hy] at hlen htk
                  have HTKh : Hid _ := htk
                  have HTh : Hid (Lrh.length + (r_prt yh).length ≤ 1099511627776) := by apply hide; have e := HTf.out; simp only [r_grp, List.length_append, ← HLNP.out] at e; have e0 := congrArg List.length HLg1.out; simp only [List.length_append] at e0; have e1 := congrArg List.length HLg2.out; simp only [List.length_append] at e1; have e2 := congrArg List.length HLg3.out; simp only [List.length_append] at e2; have e3 := congrArg List.length HLg4.out; simp only [List.length_append] at e3; rw [hLrh, List.length_append]; omega
                  clear hlen htk hch hLrh hy
                  have pok := HGO.out.o yh hymh
                  obtain ⟨pa0, pc0, pe0, -, -⟩ := pok.r.sl
                  have pRr := pok.r
                  obtain ⟨pn0, hpn0⟩ : ∃ n, n = yh.ts.length := ⟨_, rfl⟩
                  rw [← hpn0] at pe0
                  rw [pe0] at pRr Eh2
                  have HPR : Hid (Lst 1 cl_str W0 (.slice pa0 pn0 pc0) yh.ts) := pRr
                  have HPO : Aside (yh.Ok W0) := pok
                  clear pok pe0 pRr hpn0
                  have rh0 : wr.cell? ⟨bbh, offh + k * 3, none⟩ = some (.int .u64 (yh.n : Nat)) := cup HRRh.out.b Eh0.out
                  have rh1 : wr.cell? ⟨bbh, offh + k * 3 + 1, none⟩ = some (.int .i64 yh.v) := cup HRRh.out.b Eh1.out
                  have rh2 : wr.cell? ⟨bbh, offh + k * 3 + 2, none⟩ = some (.slice pa0 pn0 pc0) := cup HRRh.out.b Eh2.out
                  go_wp2_with fail
                  clear q0_40 q1_0 q1_1 q1_2 q1_3 rf0 rf1 rf2 rf3 rh0 rh1 rh2
                  have LBh0 : Hid (Lrh.length + (Num.uv (yh.n)).length ≤ 140737488355328) := (by have e := HTh.out; simp only [r_prt, List.length_append] at e; apply hide; omega)
                  refine (refuint_any wr (yh.n) HPO.out.n).mono ?_
                  rintro e wah0 ⟨vah0, rfl, oa, ba⟩
                  change Owns wah0 _ vah0 (Num.uv (yh.n)) at oa
                  obtain ⟨sah0, sch0, rfl, sn, sr⟩ := own_src oa
                  have HBh0 : Hid (Bf W0 wah0 vrh Lrh) := Bf.up HRRh.out ba
                  have KAh0 : Hid (KT W0 wah0) := (KRh.out).trans (KT.of_below ba)
                  have XA0_h0 : Hid (BxA wah0 (W0.heap.size) 46 (mbox m true (.slice za0 zn0 zc0) (.slice za1 zn1 zc1) (.slice za2 zn2 zc2) (.slice za3 zn3 zc3) (.slice za4 zn4 zc4) (.slice za5 zn5 zc5) (.slice za6 zn6 zc6) (.slice (some ⟨bbf, offf, none⟩) zn7 zc7))) := XR0h.out.kt (KT.of_below ba) (by decide)
                  have XA1_h0 : Hid (BxA wah0 (gB) 77 #[.int .i64 yf.s, .int .i64 yf.b, .slice ga0 gn0 gc0, .slice (some ⟨bbh, offh, none⟩) gn1 gc1]) := by apply hide; simpa using (XR1h.out).kt (KT.of_below ba) (by decide)
                  have SNh0 : Hid (sah0 = none → (Num.uv (yh.n)).length = 0 ∧ sch0 = 0) := sn
                  have SRh0 : Hid _ := sr
                  clear oa ba sn sr
                  go_wp2_with (first | (at_builtin; refine wp_app rfl _ _ rfl W0.heap.size _ Lrh (Num.uv (yh.n)) rfl HBh0.out.o _ _ _ rfl rfl SNh0.out SRh0.out LBh0.out HBh0.out.b.size ?_; intro vh1 wh1 o g; obtain ⟨B, kt⟩ := HBh0.out.app o g; obtain ⟨Lh1, hL⟩ : ∃ L, L = Lrh ++ (Num.uv (yh.n)) := ⟨_, rfl⟩; rw [← hL] at B; have HLh1 : Hid (Lh1 = Lrh ++ (Num.uv (yh.n))) := hL; clear hL; have Hh1 : Hid (Bf W0 wh1 vh1 Lh1) := B; have Kh1 : Hid (KT W0 wh1) := KAh0.out.trans kt; have X0_h1 : Hid (BxA wh1 (W0.heap.size) 46 (mbox m true (.slice za0 zn0 zc0) (.slice za1 zn1 zc1) (.slice za2 zn2 zc2) (.slice za3 zn3 zc3) (.slice za4 zn4 zc4) (.slice za5 zn5 zc5) (.slice za6 zn6 zc6) (.slice (some ⟨bbf, offf, none⟩) zn7 zc7))) := XA0_h0.out.kt kt (by decide); have X1_h1 : Hid (BxA wh1 (gB) 77 #[.int .i64 yf.s, .int .i64 yf.b, .slice ga0 gn0 gc0, .slice (some ⟨bbh, offh, none⟩) gn1 gc1]) := XA1_h0.out.kt kt (by decide); clear o g B kt; have q0_40 : wh1.cell? ⟨W0.heap.size, 40, none⟩ = some (.slice (some ⟨bbf, offf, none⟩) zn7 zc7) := X0_h1.out.cell 40 _ rfl; have q1_0 : wh1.cell? ⟨gB, 0, none⟩ = some (.int .i64 yf.s) := X1_h1.out.cell 0 _ rfl; have q1_1 : wh1.cell? ⟨gB, 1, none⟩ = some (.int .i64 yf.b) := X1_h1.out.cell 1 _ rfl; have q1_2 : wh1.cell? ⟨gB, 2, none⟩ = some (.slice ga0 gn0 gc0) := X1_h1.out.cell 2 _ rfl; have q1_3 : wh1.cell? ⟨gB, 3, none⟩ = some (.slice (some ⟨bbh, offh, none⟩) gn1 gc1) := X1_h1.out.cell 3 _ rfl; have rf0 : wh1.cell? ⟨bbf, offf + i * 4, none⟩ = some (.int .i64 yf.s) := cup Hh1.out.b Ef0.out; have rf1 : wh1.cell? ⟨bbf, offf + i * 4 + 1, none⟩ = some (.int .i64 yf.b) := cup Hh1.out.b Ef1.out; have rf2 : wh1.cell? ⟨bbf, offf + i * 4 + 2, none⟩ = some (.slice ga0 gn0 gc0) := cup Hh1.out.b Ef2.out; have rf3 : wh1.cell? ⟨bbf, offf + i * 4 + 3, none⟩ = some (.slice (some ⟨bbh, offh, none⟩) gn1 gc1) := cup Hh1.out.b Ef3.out; have rh0 : wh1.cell? ⟨bbh, offh + k * 3, none⟩ = some (.int .u64 (yh.n : Nat)) := cup Hh1.out.b Eh0.out; have rh1 : wh1.cell? ⟨bbh, offh + k * 3 + 1, none⟩ = some (.int .i64 yh.v) := cup Hh1.out.b Eh1.out; have rh2 : wh1.cell? ⟨bbh, offh + k * 3 + 2, none⟩ = some (.slice pa0 pn0 pc0) := cup Hh1.out.b Eh2.out))
                  clear q0_40 q1_0 q1_1 q1_2 q1_3 rf0 rf1 rf2 rf3 rh0 rh1 rh2
                  clear LBh0 HBh0 KAh0 SNh0 SRh0 XA0_h0 XA1_h0
                  have LBh1 : Hid (Lh1.length + (ei (yh.v)).length ≤ 140737488355328) := (by have e := HTh.out; simp only [r_prt, List.length_append] at e; have e0 := congrArg List.length HLh1.out; simp only [List.length_append] at e0; apply hide; omega)
                  refine (refint_any wh1 (yh.v) HPO.out.v.1 HPO.out.v.2).mono ?_
                  rintro e wah1 ⟨vah1, rfl, oa, ba⟩
                  change Owns wah1 _ vah1 (ei (yh.v)) at oa
                  obtain ⟨sah1, sch1, rfl, sn, sr⟩ := own_src oa
                  have HBh1 : Hid (Bf W0 wah1 vh1 Lh1) := Bf.up Hh1.out ba
                  have KAh1 : Hid (KT W0 wah1) := (Kh1.out).trans (KT.of_below ba)
                  have XA0_h1 : Hid (BxA wah1 (W0.heap.size) 46 (mbox m true (.slice za0 zn0 zc0) (.slice za1 zn1 zc1) (.slice za2 zn2 zc2) (.slice za3 zn3 zc3) (.slice za4 zn4 zc4) (.slice za5 zn5 zc5) (.slice za6 zn6 zc6) (.slice (some ⟨bbf, offf, none⟩) zn7 zc7))) := X0_h1.out.kt (KT.of_below ba) (by decide)
                  have XA1_h1 : Hid (BxA wah1 (gB) 77 #[.int .i64 yf.s, .int .i64 yf.b, .slice ga0 gn0 gc0, .slice (some ⟨bbh, offh, none⟩) gn1 gc1]) := by apply hide; simpa using (X1_h1.out).kt (KT.of_below ba) (by decide)
                  have SNh1 : Hid (sah1 = none → (ei (yh.v)).length = 0 ∧ sch1 = 0) := sn
                  have SRh1 : Hid _ := sr
                  clear oa ba sn sr
                  go_wp2_with (first | (at_builtin; refine wp_app rfl _ _ rfl W0.heap.size _ Lh1 (ei (yh.v)) rfl HBh1.out.o _ _ _ rfl rfl SNh1.out SRh1.out LBh1.out HBh1.out.b.size ?_; intro vh2 wh2 o g; obtain ⟨B, kt⟩ := HBh1.out.app o g; obtain ⟨Lh2, hL⟩ : ∃ L, L = Lh1 ++ (ei (yh.v)) := ⟨_, rfl⟩; rw [← hL] at B; have HLh2 : Hid (Lh2 = Lh1 ++ (ei (yh.v))) := hL; clear hL; have Hh2 : Hid (Bf W0 wh2 vh2 Lh2) := B; have Kh2 : Hid (KT W0 wh2) := KAh1.out.trans kt; have X0_h2 : Hid (BxA wh2 (W0.heap.size) 46 (mbox m true (.slice za0 zn0 zc0) (.slice za1 zn1 zc1) (.slice za2 zn2 zc2) (.slice za3 zn3 zc3) (.slice za4 zn4 zc4) (.slice za5 zn5 zc5) (.slice za6 zn6 zc6) (.slice (some ⟨bbf, offf, none⟩) zn7 zc7))) := XA0_h1.out.kt kt (by decide); have X1_h2 : Hid (BxA wh2 (gB) 77 #[.int .i64 yf.s, .int .i64 yf.b, .slice ga0 gn0 gc0, .slice (some ⟨bbh, offh, none⟩) gn1 gc1]) := XA1_h1.out.kt kt (by decide); clear o g B kt; have q0_40 : wh2.cell? ⟨W0.heap.size, 40, none⟩ = some (.slice (some ⟨bbf, offf, none⟩) zn7 zc7) := X0_h2.out.cell 40 _ rfl; have q1_0 : wh2.cell? ⟨gB, 0, none⟩ = some (.int .i64 yf.s) := X1_h2.out.cell 0 _ rfl; have q1_1 : wh2.cell? ⟨gB, 1, none⟩ = some (.int .i64 yf.b) := X1_h2.out.cell 1 _ rfl; have q1_2 : wh2.cell? ⟨gB, 2, none⟩ = some (.slice ga0 gn0 gc0) := X1_h2.out.cell 2 _ rfl; have q1_3 : wh2.cell? ⟨gB, 3, none⟩ = some (.slice (some ⟨bbh, offh, none⟩) gn1 gc1) := X1_h2.out.cell 3 _ rfl; have rf0 : wh2.cell? ⟨bbf, offf + i * 4, none⟩ = some (.int .i64 yf.s) := cup Hh2.out.b Ef0.out; have rf1 : wh2.cell? ⟨bbf, offf + i * 4 + 1, none⟩ = some (.int .i64 yf.b) := cup Hh2.out.b Ef1.out; have rf2 : wh2.cell? ⟨bbf, offf + i * 4 + 2, none⟩ = some (.slice ga0 gn0 gc0) := cup Hh2.out.b Ef2.out; have rf3 : wh2.cell? ⟨bbf, offf + i * 4 + 3, none⟩ = some (.slice (some ⟨bbh, offh, none⟩) gn1 gc1) := cup Hh2.out.b Ef3.out; have rh0 : wh2.cell? ⟨bbh, offh + k * 3, none⟩ = some (.int .u64 (yh.n : Nat)) := cup Hh2.out.b Eh0.out; have rh1 : wh2.cell? ⟨bbh, offh + k * 3 + 1, none⟩ = some (.int .i64 yh.v) := cup Hh2.out.b Eh1.out; have rh2 : wh2.cell? ⟨bbh, offh + k * 3 + 2, none⟩ = some (.slice pa0 pn0 pc0) := cup Hh2.out.b Eh2.out))
                  clear q0_40 q1_0 q1_1 q1_2 q1_3 rf0 rf1 rf2 rf3 rh0 rh1 rh2
                  clear LBh1 HBh1 KAh1 SNh1 SRh1 XA0_h1 XA1_h1 Hh1 Kh1 X0_h1 X1_h1
                  have LBh2 : Hid (Lh2.length + (r_txt yh.ts).length ≤ 1099511627776) := (by have e := HTh.out; simp only [r_prt, List.length_append] at e; have e0 := congrArg List.length HLh1.out; simp only [List.length_append] at e0; have e1 := congrArg List.length HLh2.out; simp only [List.length_append] at e1; apply hide; omega)
                  refine (rtxt W0 wh2 vh2 Lh2 _ yh.ts HPR.out HPO.out.t Hh2.out LBh2.out).mono ?_
                  rintro e wh3 ⟨vh3, rfl, B, kt⟩
                  obtain ⟨Lh3, hL⟩ : ∃ L, L = Lh2 ++ (r_txt yh.ts) := ⟨_, rfl⟩
                  rw [← hL] at B
                  have HLh3 : Hid (Lh3 = Lh2 ++ (r_txt yh.ts)) := hL
                  clear hL
                  have Hh3 : Hid (Bf W0 wh3 vh3 Lh3) := B
                  have Kh3 : Hid (KT W0 wh3) := (Kh2.out).trans kt
                  have X0_h3 : Hid (BxA wh3 (W0.heap.size) 46 (mbox m true (.slice za0 zn0 zc0) (.slice za1 zn1 zc1) (.slice za2 zn2 zc2) (.slice za3 zn3 zc3) (.slice za4 zn4 zc4) (.slice za5 zn5 zc5) (.slice za6 zn6 zc6) (.slice (some ⟨bbf, offf, none⟩) zn7 zc7))) := X0_h2.out.kt (kt) (by decide)
                  have X1_h3 : Hid (BxA wh3 (gB) 77 #[.int .i64 yf.s, .int .i64 yf.b, .slice ga0 gn0 gc0, .slice (some ⟨bbh, offh, none⟩) gn1 gc1]) := by apply hide; simpa using (X1_h2.out).kt (kt) (by decide)
                  clear B kt
                  have q0_40 : wh3.cell? ⟨W0.heap.size, 40, none⟩ = some (.slice (some ⟨bbf, offf, none⟩) zn7 zc7) := X0_h3.out.cell 40 _ rfl
                  have q1_0 : wh3.cell? ⟨gB, 0, none⟩ = some (.int .i64 yf.s) := X1_h3.out.cell 0 _ rfl
                  have q1_1 : wh3.cell? ⟨gB, 1, none⟩ = some (.int .i64 yf.b) := X1_h3.out.cell 1 _ rfl
                  have q1_2 : wh3.cell? ⟨gB, 2, none⟩ = some (.slice ga0 gn0 gc0) := X1_h3.out.cell 2 _ rfl
                  have q1_3 : wh3.cell? ⟨gB, 3, none⟩ = some (.slice (some ⟨bbh, offh, none⟩) gn1 gc1) := X1_h3.out.cell 3 _ rfl
                  have rf0 : wh3.cell? ⟨bbf, offf + i * 4, none⟩ = some (.int .i64 yf.s) := cup Hh3.out.b Ef0.out
                  have rf1 : wh3.cell? ⟨bbf, offf + i * 4 + 1, none⟩ = some (.int .i64 yf.b) := cup Hh3.out.b Ef1.out
                  have rf2 : wh3.cell? ⟨bbf, offf + i * 4 + 2, none⟩ = some (.slice ga0 gn0 gc0) := cup Hh3.out.b Ef2.out
                  have rf3 : wh3.cell? ⟨bbf, offf + i * 4 + 3, none⟩ = some (.slice (some ⟨bbh, offh, none⟩) gn1 gc1) := cup Hh3.out.b Ef3.out
                  have rh0 : wh3.cell? ⟨bbh, offh + k * 3, none⟩ = some (.int .u64 (yh.n : Nat)) := cup Hh3.out.b Eh0.out
                  have rh1 : wh3.cell? ⟨bbh, offh + k * 3 + 1, none⟩ = some (.int .i64 yh.v) := cup Hh3.out.b Eh1.out
                  have rh2 : wh3.cell? ⟨bbh, offh + k * 3 + 2, none⟩ = some (.slice pa0 pn0 pc0) := cup Hh3.out.b Eh2.out
                  go_wp2_with fail
                  clear q0_40 q1_0 q1_1 q1_2 q1_3 rf0 rf1 rf2 rf3 rh0 rh1 rh2
                  clear LBh2 Hh2 Kh2 X0_h2 X1_h2
                  go_roundg (gn1 - (k + 1))
                  case measure => omega
                  case rel => exact ⟨k + 1, _, by go_num, rfl, by omega, Nat.le_refl _, by apply hide; rw [HTKh.out, ← List.append_assoc, ← HLrh.out]; have e : Lh3 = Lrh ++ r_prt yh := (by rw [HLh3.out, HLh2.out, HLh1.out]; simp only [r_prt, List.append_assoc]); rw [← e]; exact Hh3.out, Kh3.out, X0_h3.out, X1_h3.out⟩
                · have hltz : ¬ (k : Int) < (gn1 : Int) := by omega
                  obtain ⟨LXh, hLX⟩ : ∃ L, L = Lg4 ++ yf.ps.flatMap r_prt := ⟨_, rfl⟩
                  have HLXh : Hid (LXh = Lg4 ++ yf.ps.flatMap r_prt) := hLX
                  have HRXh : Hid (Bf W0 wr vrh LXh) := by apply hide; rw [hLX]; have e := HRh.out; rwa [List.take_of_length_le (by have := HLNP.out; omega)] at e
                  clear hLX
                  go_wp2_with fail
                  clear q0_40 q1_0 q1_1 q1_2 q1_3 rf0 rf1 rf2 rf3
                  go_roundg (zn7 - (i + 1))
                  case measure => omega
                  case rel => exact ⟨i + 1, _, by go_num, rfl, by omega, Nat.le_refl _, by apply hide; rw [HTKf.out, ← List.append_assoc, ← HLrf.out]; have e : LXh = Lrf ++ r_grp yf := (by rw [HLXh.out, HLg4.out, HLg3.out, HLg2.out, HLg1.out]; simp only [r_grp, List.append_assoc, ← HLNP.out]); rw [← e]; exact HRXh.out, KRh.out, XR0h.out⟩
            · have hltz : ¬ (i : Int) < (zn7 : Int) := by omega
              obtain ⟨LXf, hLX⟩ : ∃ L, L = Le1 ++ m.gp.flatMap r_grp := ⟨_, rfl⟩
              have HLXf : Hid (LXf = Le1 ++ m.gp.flatMap r_grp) := hLX
              have HRXf : Hid (Bf W0 wr vrf LXf) := by apply hide; rw [hLX]; have e := HRf.out; rwa [List.take_of_length_le (by have := HLN7.out; omega)] at e
              clear hLX
              have BDXf : Hid (LXf.length ≤ 8589934733) := (by have e := BDe1.out; have f := PR.out; have g := congrArg List.length HLXf.out; rw [List.length_append] at g; apply hide; omega)
              have HFIN : Hid (LXf = r_msg m) := by apply hide; rw [HLXf.out, HLe1.out, HLXd.out, HLc7.out, HLc6.out, HLc5.out, HLc4.out, HLc3.out, HLc2.out, HLc1.out, HLXb.out, HLa12.out, HLa11.out, HLa10.out, HLa9.out, HLa8.out, HLa7.out, HLa6.out, HLa5.out, HLa4.out, HLa3.out, HLa2.out, HLa1.out]; simp only [r_msg, HEB.out, List.append_assoc, List.nil_append, ← HLN1.out, ← HLN6.out, ← HLN7.out]
              obtain ⟨F, hF⟩ : ∃ F, F = (r_msg m).length := ⟨_, rfl⟩
              have hFb : F ≤ 1073741824 := by rw [hF]; exact HNN.out
              have HFF : Hid (F = (r_msg m).length) := hF
              have HRF : Hid (Bf W0 wr vrf (r_msg m)) := by apply hide; rw [← HFIN.out]; exact HRXf.out
              obtain ⟨fa, fc, hfs⟩ := HRF.out.o.shape F hF.symm
              subst hfs
              clear hF
              by_cases hbig : (1048576 : Int) < (F : Int)
              · go_wp2_with fail
                go_ret2
                refine ⟨HRF.out.b, .inl ⟨?_, rfl⟩⟩
                unfold rres
                rw [if_neg HDN.out, if_neg (by have := HFF.out; omega)]
              · go_wp2_with fail
                go_ret2
                refine ⟨HRF.out.b, .inr ⟨r_msg m, _, ?_, rfl, HRF.out.o⟩⟩
                unfold rres
                rw [if_neg HDN.out, if_pos (by have := HFF.out; omega)]
set_option maxRecDepth 100000 in
set_option maxHeartbeats 12800000 in
theorem rput_false (W0 : World) (m : Mm) (hm : m.Ok W0) (hod : m.od = false) (hN : (r_msg m).length ≤ 1073741824) :
    Calls Try.prog 10 #[.agg (List.toArray ((.int .i64 m.kind) :: (.int .i64 m.frm) :: (.int .i64 m.to) :: (.int .u64 (m.id : Nat)) :: (.int .u64 (m.ask : Nat)) :: (.int .u64 (m.off : Nat)) :: (.int .i64 m.term) :: (.int .u64 (m.cnt : Nat)) :: (.int .i64 m.code) :: (.int .i64 m.ft) :: (m.fdv) :: (m.fmv) :: (.int .i64 m.q.F) :: (.int .i64 m.q.T) :: (.int .i64 m.q.t.k) :: (.int .i64 m.q.t.d) :: (m.q.t.tv) :: (.int .i64 m.q.t.lo) :: (.int .i64 m.q.t.hi) :: (m.q.t.kv) :: (.int .i64 m.q.g) :: (m.q.sv) :: (m.q.av) :: (.int .i64 m.q.G) :: (.int .i64 m.q.R) :: (.int .i64 m.ps.F) :: (.int .i64 m.ps.T) :: (.int .i64 m.ps.V) :: (.int .i64 m.ps.P) :: (.int .i64 m.ps.C) :: (.int .i64 m.pF) :: (.int .i64 m.pT) :: (.bool m.od) :: (.int .i64 m.os.F) :: (.int .i64 m.os.T) :: (.int .i64 m.os.V) :: (.int .i64 m.os.P) :: (.int .i64 m.os.C) :: (.int .i64 m.on) :: (m.sv) :: (m.gv) :: []))] W0 (Puts W0 (rres m)) := by
  obtain ⟨za0, zc0, ze0, -, -⟩ := hm.fd.sl
  obtain ⟨za1, zc1, ze1, hl1, hc1⟩ := hm.fm.sl
  obtain ⟨za2, zn2, zc2, ze2⟩ := lst_sl (rds_lst hm.q.t.rt)
  obtain ⟨za3, zn3, zc3, ze3⟩ := lst_sl (tr_lst hm.q.t)
  obtain ⟨za4, zn4, zc4, ze4⟩ := lst_sl hm.q.s
  obtain ⟨za5, zn5, zc5, ze5⟩ := lst_sl hm.q.a
  obtain ⟨za6, zc6, ze6, hl6, hc6⟩ := hm.s.sl
  obtain ⟨za7, zc7, ze7, hl7, hc7⟩ := hm.g.sl
  unfold maxLen at hc1 hc6 hc7
  obtain ⟨zn0, hn0⟩ : ∃ n, n = m.fds.length := ⟨_, rfl⟩
  obtain ⟨zn1, hn1⟩ : ∃ n, n = m.fms.length := ⟨_, rfl⟩
  obtain ⟨zn6, hn6⟩ : ∃ n, n = m.sg.length := ⟨_, rfl⟩
  obtain ⟨zn7, hn7⟩ : ∃ n, n = m.gp.length := ⟨_, rfl⟩
  rw [← hn0] at ze0
  rw [← hn1] at ze1 hl1
  rw [← hn6] at ze6 hl6
  rw [← hn7] at ze7 hl7
  have hFD := hm.fd
  have hFM := hm.fm
  have hSG := hm.s
  have hGP := hm.g
  rw [ze0] at hFD
  rw [ze1] at hFM
  rw [ze6] at hSG
  rw [ze7] at hGP
  have HFD : Hid (Lst 1 cl_str W0 (.slice za0 zn0 zc0) m.fds) := hFD
  have HLS1 : Hid (Lst 1 cl_i64 W0 (.slice za1 zn1 zc1) m.fms) := hFM
  have HLS6 : Hid (Lst 5 cl_seg W0 (.slice za6 zn6 zc6) m.sg) := hSG
  have HLS7 : Hid (Lst 4 cl_grp W0 (.slice za7 zn7 zc7) m.gp) := hGP
  have HLN1 : Hid (zn1 = m.fms.length) := hn1
  have HLN6 : Hid (zn6 = m.sg.length) := hn6
  have HLN7 : Hid (zn7 = m.gp.length) := hn7
  have hu1 : zn1 < 18446744073709551616 := by omega
  have hu6 : zn6 < 18446744073709551616 := by omega
  have hu7 : zn7 < 18446744073709551616 := by omega
  obtain ⟨p1, p2, p3, p4, p5, p6, p7, p8⟩ := msg_parts m _ hN
  have PT : Hid ((r_txt m.fds).length ≤ 1073741824) := p1
  have PM : Hid ((m.fms.flatMap ei).length ≤ 1073741824) := p2
  have PQ : Hid ((r_query m.q).length ≤ 1073741824) := p3
  have PP : Hid ((r_seg m.ps).length ≤ 1073741824) := p4
  have PS : Hid ((r_span m.pF m.pT).length ≤ 1073741824) := p5
  have PO : Hid ((r_seg m.os).length ≤ 1073741824) := p6
  have PG : Hid ((m.sg.flatMap r_seg).length ≤ 1073741824) := p7
  have PR : Hid ((m.gp.flatMap r_grp).length ≤ 1073741824) := p8
  have kQ : ∀ (w : World) (v : Value) (l : Bs), Bf W0 w v l → l.length + (r_query m.q).length ≤ 1099511627776 → _ := fun w v l h hn => rquery W0 w v l m.q hm.q h hn
  rw [ze2, ze3, ze4, ze5] at kQ
  have HKQ : Aside _ := kQ
  obtain ⟨W1, hW1⟩ : ∃ W1, W1 = W0.alloc (.cells (mbox m false (.slice za0 zn0 zc0) (.slice za1 zn1 zc1) (.slice za2 zn2 zc2) (.slice za3 zn3 zc3) (.slice za4 zn4 zc4) (.slice za5 zn5 zc5) (.slice za6 zn6 zc6) (.slice za7 zn7 zc7)) 46) := ⟨_, rfl⟩
  have g1 : Fi.Grows W0 W1 := by rw [hW1]; exact Fi.Grows.alloc _ _
  have x1 : BxA W1 W0.heap.size 46 (mbox m false (.slice za0 zn0 zc0) (.slice za1 zn1 zc1) (.slice za2 zn2 zc2) (.slice za3 zn3 zc3) (.slice za4 zn4 zc4) (.slice za5 zn5 zc5) (.slice za6 zn6 zc6) (.slice za7 zn7 zc7)) := by rw [hW1]; exact BxA.new _ _ _
  have kD := Depth_any m.q.t W1 (hm.q.t.up g1.below)
  rw [ze2, ze3] at kD
  obtain ⟨R, hR⟩ : ∃ R, R = rdp 20 m.q.t := ⟨_, rfl⟩
  rw [← hR] at kD
  have HD : Hid (20 < R ↔ e_fil 20 m.q.t = none) := by apply hide; rw [hR]; exact depth_none 20 m.q.t
  have HW1 : Hid (W1 = _) := hW1
  have HG1 : Hid (Fi.Grows W0 W1) := g1
  have HX1 : Hid (BxA W1 W0.heap.size 46 (mbox m false (.slice za0 zn0 zc0) (.slice za1 zn1 zc1) (.slice za2 zn2 zc2) (.slice za3 zn3 zc3) (.slice za4 zn4 zc4) (.slice za5 zn5 zc5) (.slice za6 zn6 zc6) (.slice za7 zn7 zc7))) := x1
  have HM : Aside (m.Ok W0) := hm
  have HNN : Hid ((r_msg m).length ≤ 1073741824) := hN
  have HEB : Hid (eb m.od = [0]) := by apply hide; rw [hod]; rfl
  rw [ze0, ze1, ze2, ze3, ze4, ze5, ze6, ze7, hod]
  clear hFD hFM hSG hGP hn0 hn1 hn6 hn7 hN p1 p2 p3 p4 p5 p6 p7 p8 kQ hR hW1 g1 x1 hm hod ze0 ze1 ze2 ze3 ze4 ze5 ze6 ze7
  go_enter Try.func10, Try.ntmps10
  go_upto_region 1 with fail
  have e0 : ∀ (P : World → Prop), P W1 → P (W0.alloc (.cells (List.toArray ((.int .i64 m.kind) :: (.int .i64 m.frm) :: (.int .i64 m.to) :: (.int .u64 (m.id : Nat)) :: (.int .u64 (m.ask : Nat)) :: (.int .u64 (m.off : Nat)) :: (.int .i64 m.term) :: (.int .u64 (m.cnt : Nat)) :: (.int .i64 m.code) :: (.int .i64 m.ft) :: (.slice za0 zn0 zc0) :: (.slice za1 zn1 zc1) :: (.int .i64 m.q.F) :: (.int .i64 m.q.T) :: (.int .i64 m.q.t.k) :: (.int .i64 m.q.t.d) :: (.slice za2 zn2 zc2) :: (.int .i64 m.q.t.lo) :: (.int .i64 m.q.t.hi) :: (.slice za3 zn3 zc3) :: (.int .i64 m.q.g) :: (.slice za4 zn4 zc4) :: (.slice za5 zn5 zc5) :: (.int .i64 m.q.G) :: (.int .i64 m.q.R) :: (.int .i64 m.ps.F) :: (.int .i64 m.ps.T) :: (.int .i64 m.ps.V) :: (.int .i64 m.ps.P) :: (.int .i64 m.ps.C) :: (.int .i64 m.pF) :: (.int .i64 m.pT) :: (.bool false) :: (.int .i64 m.os.F) :: (.int .i64 m.os.T) :: (.int .i64 m.os.V) :: (.int .i64 m.os.P) :: (.int .i64 m.os.C) :: (.int .i64 m.on) :: (.slice za6 zn6 zc6) :: (.slice za7 zn7 zc7) :: [])) 46)) := fun P h => by
    have e := HW1.out
    unfold mbox at e
    rw [e] at h
    exact h
  refine e0 _ ?_
  clear e0
  have q0_14 : W1.cell? ⟨W0.heap.size, 14, none⟩ = some (.int .i64 m.q.t.k) := HX1.out.cell 14 _ rfl
  have q0_15 : W1.cell? ⟨W0.heap.size, 15, none⟩ = some (.int .i64 m.q.t.d) := HX1.out.cell 15 _ rfl
  have q0_16 : W1.cell? ⟨W0.heap.size, 16, none⟩ = some (.slice za2 zn2 zc2) := HX1.out.cell 16 _ rfl
  have q0_17 : W1.cell? ⟨W0.heap.size, 17, none⟩ = some (.int .i64 m.q.t.lo) := HX1.out.cell 17 _ rfl
  have q0_18 : W1.cell? ⟨W0.heap.size, 18, none⟩ = some (.int .i64 m.q.t.hi) := HX1.out.cell 18 _ rfl
  have q0_19 : W1.cell? ⟨W0.heap.size, 19, none⟩ = some (.slice za3 zn3 zc3) := HX1.out.cell 19 _ rfl
  go_wp2_with fail
  clear q0_14 q0_15 q0_16 q0_17 q0_18 q0_19
  refine kD.mono ?_
  rintro e wz ⟨rfl, gz, hRb⟩
  have HZ : Hid (Bf W0 wz (.slice none 0 0) []) := ⟨(HG1.out.trans gz).below, rfl, .inl ⟨rfl, rfl⟩⟩
  have KZ : Hid (KT W0 wz) := KT.of_below (HG1.out.trans gz).below
  have XZ : Hid (BxA wz W0.heap.size 46 (mbox m false (.slice za0 zn0 zc0) (.slice za1 zn1 zc1) (.slice za2 zn2 zc2) (.slice za3 zn3 zc3) (.slice za4 zn4 zc4) (.slice za5 zn5 zc5) (.slice za6 zn6 zc6) (.slice za7 zn7 zc7))) := HX1.out.kt (KT.of_below gz.below) (by decide)
  clear kD gz
  by_cases hdp : 20 < R
  · have hdz : (20 : Int) < (R : Int) := by omega
    go_wp2_with fail
    go_ret2
    refine ⟨HZ.out.b, .inl ⟨?_, rfl⟩⟩
    exact if_pos (HD.out.1 hdp)
  have hdz : ¬ (20 : Int) < (R : Int) := by omega
  have HDN : Hid (¬ e_fil 20 m.q.t = none) := fun h => hdp (HD.out.2 h)
  have q0_0 : wz.cell? ⟨W0.heap.size, 0, none⟩ = some (.int .i64 m.kind) := XZ.out.cell 0 _ rfl
  go_wp2_with fail
  clear q0_0
  have BDz : Hid (([] : Bs).length ≤ 0) := Nat.le_refl _
  have LBa0 : Hid (([] : Bs).length + (ei (m.kind)).length ≤ 140737488355328) := (by have e := BDz.out; have f := ei_len (m.kind); apply hide; omega)
  refine (refint_any wz (m.kind) HM.out.kind.1 HM.out.kind.2).mono ?_
  rintro e waa0 ⟨vaa0, rfl, oa, ba⟩
  change Owns waa0 _ vaa0 (ei (m.kind)) at oa
  obtain ⟨saa0, sca0, rfl, sn, sr⟩ := own_src oa
  have HBa0 : Hid (Bf W0 waa0 (.slice none 0 0) ([] : Bs)) := Bf.up HZ.out ba
  have KAa0 : Hid (KT W0 waa0) := (KZ.out).trans (KT.of_below ba)
  have XA0_a0 : Hid (BxA waa0 (W0.heap.size) 46 (mbox m false (.slice za0 zn0 zc0) (.slice za1 zn1 zc1) (.slice za2 zn2 zc2) (.slice za3 zn3 zc3) (.slice za4 zn4 zc4) (.slice za5 zn5 zc5) (.slice za6 zn6 zc6) (.slice za7 zn7 zc7))) := XZ.out.kt (KT.of_below ba) (by decide)
  have SNa0 : Hid (saa0 = none → (ei (m.kind)).length = 0 ∧ sca0 = 0) := sn
  have SRa0 : Hid _ := sr
  clear oa ba sn sr
  go_wp2_with (first | (at_builtin; refine wp_app rfl _ _ rfl W0.heap.size _ ([] : Bs) (ei (m.kind)) rfl HBa0.out.o _ _ _ rfl rfl SNa0.out SRa0.out LBa0.out HBa0.out.b.size ?_; intro va1 wa1 o g; obtain ⟨B, kt⟩ := HBa0.out.app o g; obtain ⟨La1, hL⟩ : ∃ L, L = ([] : Bs) ++ (ei (m.kind)) := ⟨_, rfl⟩; rw [← hL] at B; have HLa1 : Hid (La1 = ([] : Bs) ++ (ei (m.kind))) := hL; clear hL; have Ha1 : Hid (Bf W0 wa1 va1 La1) := B; have Ka1 : Hid (KT W0 wa1) := KAa0.out.trans kt; have X0_a1 : Hid (BxA wa1 (W0.heap.size) 46 (mbox m false (.slice za0 zn0 zc0) (.slice za1 zn1 zc1) (.slice za2 zn2 zc2) (.slice za3 zn3 zc3) (.slice za4 zn4 zc4) (.slice za5 zn5 zc5) (.slice za6 zn6 zc6) (.slice za7 zn7 zc7))) := XA0_a0.out.kt kt (by decide); clear o g B kt; have q0_1 : wa1.cell? ⟨W0.heap.size, 1, none⟩ = some (.int .i64 m.frm) := X0_a1.out.cell 1 _ rfl))
  clear q0_1
  clear LBa0 HBa0 KAa0 SNa0 SRa0 XA0_a0
  have BDa1 : Hid (La1.length ≤ 10) := (by have e := BDz.out; have f := ei_len (m.kind); have g := congrArg List.length HLa1.out; rw [List.length_append] at g; apply hide; omega)
  have LBa1 : Hid (La1.length + (ei (m.frm)).length ≤ 140737488355328) := (by have e := BDa1.out; have f := ei_len (m.frm); apply hide; omega)
  refine (refint_any wa1 (m.frm) HM.out.frm.1 HM.out.frm.2).mono ?_
  rintro e waa1 ⟨vaa1, rfl, oa, ba⟩
  change Owns waa1 _ vaa1 (ei (m.frm)) at oa
  obtain ⟨saa1, sca1, rfl, sn, sr⟩ := own_src oa
  have HBa1 : Hid (Bf W0 waa1 va1 La1) := Bf.up Ha1.out ba
  have KAa1 : Hid (KT W0 waa1) := (Ka1.out).trans (KT.of_below ba)
  have XA0_a1 : Hid (BxA waa1 (W0.heap.size) 46 (mbox m false (.slice za0 zn0 zc0) (.slice za1 zn1 zc1) (.slice za2 zn2 zc2) (.slice za3 zn3 zc3) (.slice za4 zn4 zc4) (.slice za5 zn5 zc5) (.slice za6 zn6 zc6) (.slice za7 zn7 zc7))) := X0_a1.out.kt (KT.of_below ba) (by decide)
  have SNa1 : Hid (saa1 = none → (ei (m.frm)).length = 0 ∧ sca1 = 0) := sn
  have SRa1 : Hid _ := sr
  clear oa ba sn sr
  go_wp2_with (first | (at_builtin; refine wp_app rfl _ _ rfl W0.heap.size _ La1 (ei (m.frm)) rfl HBa1.out.o _ _ _ rfl rfl SNa1.out SRa1.out LBa1.out HBa1.out.b.size ?_; intro va2 wa2 o g; obtain ⟨B, kt⟩ := HBa1.out.app o g; obtain ⟨La2, hL⟩ : ∃ L, L = La1 ++ (ei (m.frm)) := ⟨_, rfl⟩; rw [← hL] at B; have HLa2 : Hid (La2 = La1 ++ (ei (m.frm))) := hL; clear hL; have Ha2 : Hid (Bf W0 wa2 va2 La2) := B; have Ka2 : Hid (KT W0 wa2) := KAa1.out.trans kt; have X0_a2 : Hid (BxA wa2 (W0.heap.size) 46 (mbox m false (.slice za0 zn0 zc0) (.slice za1 zn1 zc1) (.slice za2 zn2 zc2) (.slice za3 zn3 zc3) (.slice za4 zn4 zc4) (.slice za5 zn5 zc5) (.slice za6 zn6 zc6) (.slice za7 zn7 zc7))) := XA0_a1.out.kt kt (by decide); clear o g B kt; have q0_2 : wa2.cell? ⟨W0.heap.size, 2, none⟩ = some (.int .i64 m.to) := X0_a2.out.cell 2 _ rfl))
  clear q0_2
  clear LBa1 HBa1 KAa1 SNa1 SRa1 XA0_a1 Ha1 Ka1 X0_a1
  have BDa2 : Hid (La2.length ≤ 20) := (by have e := BDa1.out; have f := ei_len (m.frm); have g := congrArg List.length HLa2.out; rw [List.length_append] at g; apply hide; omega)
  clear BDa1
  have LBa2 : Hid (La2.length + (ei (m.to)).length ≤ 140737488355328) := (by have e := BDa2.out; have f := ei_len (m.to); apply hide; omega)
  refine (refint_any wa2 (m.to) HM.out.to.1 HM.out.to.2).mono ?_
  rintro e waa2 ⟨vaa2, rfl, oa, ba⟩
  change Owns waa2 _ vaa2 (ei (m.to)) at oa
  obtain ⟨saa2, sca2, rfl, sn, sr⟩ := own_src oa
  have HBa2 : Hid (Bf W0 waa2 va2 La2) := Bf.up Ha2.out ba
  have KAa2 : Hid (KT W0 waa2) := (Ka2.out).trans (KT.of_below ba)
  have XA0_a2 : Hid (BxA waa2 (W0.heap.size) 46 (mbox m false (.slice za0 zn0 zc0) (.slice za1 zn1 zc1) (.slice za2 zn2 zc2) (.slice za3 zn3 zc3) (.slice za4 zn4 zc4) (.slice za5 zn5 zc5) (.slice za6 zn6 zc6) (.slice za7 zn7 zc7))) := X0_a2.out.kt (KT.of_below ba) (by decide)
  have SNa2 : Hid (saa2 = none → (ei (m.to)).length = 0 ∧ sca2 = 0) := sn
  have SRa2 : Hid _ := sr
  clear oa ba sn sr
  go_wp2_with (first | (at_builtin; refine wp_app rfl _ _ rfl W0.heap.size _ La2 (ei (m.to)) rfl HBa2.out.o _ _ _ rfl rfl SNa2.out SRa2.out LBa2.out HBa2.out.b.size ?_; intro va3 wa3 o g; obtain ⟨B, kt⟩ := HBa2.out.app o g; obtain ⟨La3, hL⟩ : ∃ L, L = La2 ++ (ei (m.to)) := ⟨_, rfl⟩; rw [← hL] at B; have HLa3 : Hid (La3 = La2 ++ (ei (m.to))) := hL; clear hL; have Ha3 : Hid (Bf W0 wa3 va3 La3) := B; have Ka3 : Hid (KT W0 wa3) := KAa2.out.trans kt; have X0_a3 : Hid (BxA wa3 (W0.heap.size) 46 (mbox m false (.slice za0 zn0 zc0) (.slice za1 zn1 zc1) (.slice za2 zn2 zc2) (.slice za3 zn3 zc3) (.slice za4 zn4 zc4) (.slice za5 zn5 zc5) (.slice za6 zn6 zc6) (.slice za7 zn7 zc7))) := XA0_a2.out.kt kt (by decide); clear o g B kt; have q0_3 : wa3.cell? ⟨W0.heap.size, 3, none⟩ = some (.int .u64 (m.id : Nat)) := X0_a3.out.cell 3 _ rfl))
  clear q0_3
  clear LBa2 HBa2 KAa2 SNa2 SRa2 XA0_a2 Ha2 Ka2 X0_a2
  have BDa3 : Hid (La3.length ≤ 30) := (by have e := BDa2.out; have f := ei_len (m.to); have g := congrArg List.length HLa3.out; rw [List.length_append] at g; apply hide; omega)
  clear BDa2
  have LBa3 : Hid (La3.length + (Num.uv (m.id)).length ≤ 140737488355328) := (by have e := BDa3.out; have f := Num.uv_length (m.id); apply hide; omega)
  refine (refuint_any wa3 (m.id) HM.out.id).mono ?_
  rintro e waa3 ⟨vaa3, rfl, oa, ba⟩
  change Owns waa3 _ vaa3 (Num.uv (m.id)) at oa
  obtain ⟨saa3, sca3, rfl, sn, sr⟩ := own_src oa
  have HBa3 : Hid (Bf W0 waa3 va3 La3) := Bf.up Ha3.out ba
  have KAa3 : Hid (KT W0 waa3) := (Ka3.out).trans (KT.of_below ba)
  have XA0_a3 : Hid (BxA waa3 (W0.heap.size) 46 (mbox m false (.slice za0 zn0 zc0) (.slice za1 zn1 zc1) (.slice za2 zn2 zc2) (.slice za3 zn3 zc3) (.slice za4 zn4 zc4) (.slice za5 zn5 zc5) (.slice za6 zn6 zc6) (.slice za7 zn7 zc7))) := X0_a3.out.kt (KT.of_below ba) (by decide)
  have SNa3 : Hid (saa3 = none → (Num.uv (m.id)).length = 0 ∧ sca3 = 0) := sn
  have SRa3 : Hid _ := sr
  clear oa ba sn sr
  go_wp2_with (first | (at_builtin; refine wp_app rfl _ _ rfl W0.heap.size _ La3 (Num.uv (m.id)) rfl HBa3.out.o _ _ _ rfl rfl SNa3.out SRa3.out LBa3.out HBa3.out.b.size ?_; intro va4 wa4 o g; obtain ⟨B, kt⟩ := HBa3.out.app o g; obtain ⟨La4, hL⟩ : ∃ L, L = La3 ++ (Num.uv (m.id)) := ⟨_, rfl⟩; rw [← hL] at B; have HLa4 : Hid (La4 = La3 ++ (Num.uv (m.id))) := hL; clear hL; have Ha4 : Hid (Bf W0 wa4 va4 La4) := B; have Ka4 : Hid (KT W0 wa4) := KAa3.out.trans kt; have X0_a4 : Hid (BxA wa4 (W0.heap.size) 46 (mbox m false (.slice za0 zn0 zc0) (.slice za1 zn1 zc1) (.slice za2 zn2 zc2) (.slice za3 zn3 zc3) (.slice za4 zn4 zc4) (.slice za5 zn5 zc5) (.slice za6 zn6 zc6) (.slice za7 zn7 zc7))) := XA0_a3.out.kt kt (by decide); clear o g B kt; have q0_4 : wa4.cell? ⟨W0.heap.size, 4, none⟩ = some (.int .u64 (m.ask : Nat)) := X0_a4.out.cell 4 _ rfl))
  clear q0_4
  clear LBa3 HBa3 KAa3 SNa3 SRa3 XA0_a3 Ha3 Ka3 X0_a3
  have BDa4 : Hid (La4.length ≤ 40) := (by have e := BDa3.out; have f := Num.uv_length (m.id); have g := congrArg List.length HLa4.out; rw [List.length_append] at g; apply hide; omega)
  clear BDa3
  have LBa4 : Hid (La4.length + (Num.uv (m.ask)).length ≤ 140737488355328) := (by have e := BDa4.out; have f := Num.uv_length (m.ask); apply hide; omega)
  refine (refuint_any wa4 (m.ask) HM.out.ask).mono ?_
  rintro e waa4 ⟨vaa4, rfl, oa, ba⟩
  change Owns waa4 _ vaa4 (Num.uv (m.ask)) at oa
  obtain ⟨saa4, sca4, rfl, sn, sr⟩ := own_src oa
  have HBa4 : Hid (Bf W0 waa4 va4 La4) := Bf.up Ha4.out ba
  have KAa4 : Hid (KT W0 waa4) := (Ka4.out).trans (KT.of_below ba)
  have XA0_a4 : Hid (BxA waa4 (W0.heap.size) 46 (mbox m false (.slice za0 zn0 zc0) (.slice za1 zn1 zc1) (.slice za2 zn2 zc2) (.slice za3 zn3 zc3) (.slice za4 zn4 zc4) (.slice za5 zn5 zc5) (.slice za6 zn6 zc6) (.slice za7 zn7 zc7))) := X0_a4.out.kt (KT.of_below ba) (by decide)
  have SNa4 : Hid (saa4 = none → (Num.uv (m.ask)).length = 0 ∧ sca4 = 0) := sn
  have SRa4 : Hid _ := sr
  clear oa ba sn sr
  go_wp2_with (first | (at_builtin; refine wp_app rfl _ _ rfl W0.heap.size _ La4 (Num.uv (m.ask)) rfl HBa4.out.o _ _ _ rfl rfl SNa4.out SRa4.out LBa4.out HBa4.out.b.size ?_; intro va5 wa5 o g; obtain ⟨B, kt⟩ := HBa4.out.app o g; obtain ⟨La5, hL⟩ : ∃ L, L = La4 ++ (Num.uv (m.ask)) := ⟨_, rfl⟩; rw [← hL] at B; have HLa5 : Hid (La5 = La4 ++ (Num.uv (m.ask))) := hL; clear hL; have Ha5 : Hid (Bf W0 wa5 va5 La5) := B; have Ka5 : Hid (KT W0 wa5) := KAa4.out.trans kt; have X0_a5 : Hid (BxA wa5 (W0.heap.size) 46 (mbox m false (.slice za0 zn0 zc0) (.slice za1 zn1 zc1) (.slice za2 zn2 zc2) (.slice za3 zn3 zc3) (.slice za4 zn4 zc4) (.slice za5 zn5 zc5) (.slice za6 zn6 zc6) (.slice za7 zn7 zc7))) := XA0_a4.out.kt kt (by decide); clear o g B kt; have q0_5 : wa5.cell? ⟨W0.heap.size, 5, none⟩ = some (.int .u64 (m.off : Nat)) := X0_a5.out.cell 5 _ rfl))
  clear q0_5
  clear LBa4 HBa4 KAa4 SNa4 SRa4 XA0_a4 Ha4 Ka4 X0_a4
  have BDa5 : Hid (La5.length ≤ 50) := (by have e := BDa4.out; have f := Num.uv_length (m.ask); have g := congrArg List.length HLa5.out; rw [List.length_append] at g; apply hide; omega)
  clear BDa4
  have LBa5 : Hid (La5.length + (Num.uv (m.off)).length ≤ 140737488355328) := (by have e := BDa5.out; have f := Num.uv_length (m.off); apply hide; omega)
  refine (refuint_any wa5 (m.off) HM.out.off).mono ?_
  rintro e waa5 ⟨vaa5, rfl, oa, ba⟩
  change Owns waa5 _ vaa5 (Num.uv (m.off)) at oa
  obtain ⟨saa5, sca5, rfl, sn, sr⟩ := own_src oa
  have HBa5 : Hid (Bf W0 waa5 va5 La5) := Bf.up Ha5.out ba
  have KAa5 : Hid (KT W0 waa5) := (Ka5.out).trans (KT.of_below ba)
  have XA0_a5 : Hid (BxA waa5 (W0.heap.size) 46 (mbox m false (.slice za0 zn0 zc0) (.slice za1 zn1 zc1) (.slice za2 zn2 zc2) (.slice za3 zn3 zc3) (.slice za4 zn4 zc4) (.slice za5 zn5 zc5) (.slice za6 zn6 zc6) (.slice za7 zn7 zc7))) := X0_a5.out.kt (KT.of_below ba) (by decide)
  have SNa5 : Hid (saa5 = none → (Num.uv (m.off)).length = 0 ∧ sca5 = 0) := sn
  have SRa5 : Hid _ := sr
  clear oa ba sn sr
  go_wp2_with (first | (at_builtin; refine wp_app rfl _ _ rfl W0.heap.size _ La5 (Num.uv (m.off)) rfl HBa5.out.o _ _ _ rfl rfl SNa5.out SRa5.out LBa5.out HBa5.out.b.size ?_; intro va6 wa6 o g; obtain ⟨B, kt⟩ := HBa5.out.app o g; obtain ⟨La6, hL⟩ : ∃ L, L = La5 ++ (Num.uv (m.off)) := ⟨_, rfl⟩; rw [← hL] at B; have HLa6 : Hid (La6 = La5 ++ (Num.uv (m.off))) := hL; clear hL; have Ha6 : Hid (Bf W0 wa6 va6 La6) := B; have Ka6 : Hid (KT W0 wa6) := KAa5.out.trans kt; have X0_a6 : Hid (BxA wa6 (W0.heap.size) 46 (mbox m false (.slice za0 zn0 zc0) (.slice za1 zn1 zc1) (.slice za2 zn2 zc2) (.slice za3 zn3 zc3) (.slice za4 zn4 zc4) (.slice za5 zn5 zc5) (.slice za6 zn6 zc6) (.slice za7 zn7 zc7))) := XA0_a5.out.kt kt (by decide); clear o g B kt; have q0_6 : wa6.cell? ⟨W0.heap.size, 6, none⟩ = some (.int .i64 m.term) := X0_a6.out.cell 6 _ rfl))
  clear q0_6
  clear LBa5 HBa5 KAa5 SNa5 SRa5 XA0_a5 Ha5 Ka5 X0_a5
  have BDa6 : Hid (La6.length ≤ 60) := (by have e := BDa5.out; have f := Num.uv_length (m.off); have g := congrArg List.length HLa6.out; rw [List.length_append] at g; apply hide; omega)
  clear BDa5
  have LBa6 : Hid (La6.length + (ei (m.term)).length ≤ 140737488355328) := (by have e := BDa6.out; have f := ei_len (m.term); apply hide; omega)
  refine (refint_any wa6 (m.term) HM.out.term.1 HM.out.term.2).mono ?_
  rintro e waa6 ⟨vaa6, rfl, oa, ba⟩
  change Owns waa6 _ vaa6 (ei (m.term)) at oa
  obtain ⟨saa6, sca6, rfl, sn, sr⟩ := own_src oa
  have HBa6 : Hid (Bf W0 waa6 va6 La6) := Bf.up Ha6.out ba
  have KAa6 : Hid (KT W0 waa6) := (Ka6.out).trans (KT.of_below ba)
  have XA0_a6 : Hid (BxA waa6 (W0.heap.size) 46 (mbox m false (.slice za0 zn0 zc0) (.slice za1 zn1 zc1) (.slice za2 zn2 zc2) (.slice za3 zn3 zc3) (.slice za4 zn4 zc4) (.slice za5 zn5 zc5) (.slice za6 zn6 zc6) (.slice za7 zn7 zc7))) := X0_a6.out.kt (KT.of_below ba) (by decide)
  have SNa6 : Hid (saa6 = none → (ei (m.term)).length = 0 ∧ sca6 = 0) := sn
  have SRa6 : Hid _ := sr
  clear oa ba sn sr
  go_wp2_with (first | (at_builtin; refine wp_app rfl _ _ rfl W0.heap.size _ La6 (ei (m.term)) rfl HBa6.out.o _ _ _ rfl rfl SNa6.out SRa6.out LBa6.out HBa6.out.b.size ?_; intro va7 wa7 o g; obtain ⟨B, kt⟩ := HBa6.out.app o g; obtain ⟨La7, hL⟩ : ∃ L, L = La6 ++ (ei (m.term)) := ⟨_, rfl⟩; rw [← hL] at B; have HLa7 : Hid (La7 = La6 ++ (ei (m.term))) := hL; clear hL; have Ha7 : Hid (Bf W0 wa7 va7 La7) := B; have Ka7 : Hid (KT W0 wa7) := KAa6.out.trans kt; have X0_a7 : Hid (BxA wa7 (W0.heap.size) 46 (mbox m false (.slice za0 zn0 zc0) (.slice za1 zn1 zc1) (.slice za2 zn2 zc2) (.slice za3 zn3 zc3) (.slice za4 zn4 zc4) (.slice za5 zn5 zc5) (.slice za6 zn6 zc6) (.slice za7 zn7 zc7))) := XA0_a6.out.kt kt (by decide); clear o g B kt; have q0_7 : wa7.cell? ⟨W0.heap.size, 7, none⟩ = some (.int .u64 (m.cnt : Nat)) := X0_a7.out.cell 7 _ rfl))
  clear q0_7
  clear LBa6 HBa6 KAa6 SNa6 SRa6 XA0_a6 Ha6 Ka6 X0_a6
  have BDa7 : Hid (La7.length ≤ 70) := (by have e := BDa6.out; have f := ei_len (m.term); have g := congrArg List.length HLa7.out; rw [List.length_append] at g; apply hide; omega)
  clear BDa6
  have LBa7 : Hid (La7.length + (Num.uv (m.cnt)).length ≤ 140737488355328) := (by have e := BDa7.out; have f := Num.uv_length (m.cnt); apply hide; omega)
  refine (refuint_any wa7 (m.cnt) HM.out.cnt).mono ?_
  rintro e waa7 ⟨vaa7, rfl, oa, ba⟩
  change Owns waa7 _ vaa7 (Num.uv (m.cnt)) at oa
  obtain ⟨saa7, sca7, rfl, sn, sr⟩ := own_src oa
  have HBa7 : Hid (Bf W0 waa7 va7 La7) := Bf.up Ha7.out ba
  have KAa7 : Hid (KT W0 waa7) := (Ka7.out).trans (KT.of_below ba)
  have XA0_a7 : Hid (BxA waa7 (W0.heap.size) 46 (mbox m false (.slice za0 zn0 zc0) (.slice za1 zn1 zc1) (.slice za2 zn2 zc2) (.slice za3 zn3 zc3) (.slice za4 zn4 zc4) (.slice za5 zn5 zc5) (.slice za6 zn6 zc6) (.slice za7 zn7 zc7))) := X0_a7.out.kt (KT.of_below ba) (by decide)
  have SNa7 : Hid (saa7 = none → (Num.uv (m.cnt)).length = 0 ∧ sca7 = 0) := sn
  have SRa7 : Hid _ := sr
  clear oa ba sn sr
  go_wp2_with (first | (at_builtin; refine wp_app rfl _ _ rfl W0.heap.size _ La7 (Num.uv (m.cnt)) rfl HBa7.out.o _ _ _ rfl rfl SNa7.out SRa7.out LBa7.out HBa7.out.b.size ?_; intro va8 wa8 o g; obtain ⟨B, kt⟩ := HBa7.out.app o g; obtain ⟨La8, hL⟩ : ∃ L, L = La7 ++ (Num.uv (m.cnt)) := ⟨_, rfl⟩; rw [← hL] at B; have HLa8 : Hid (La8 = La7 ++ (Num.uv (m.cnt))) := hL; clear hL; have Ha8 : Hid (Bf W0 wa8 va8 La8) := B; have Ka8 : Hid (KT W0 wa8) := KAa7.out.trans kt; have X0_a8 : Hid (BxA wa8 (W0.heap.size) 46 (mbox m false (.slice za0 zn0 zc0) (.slice za1 zn1 zc1) (.slice za2 zn2 zc2) (.slice za3 zn3 zc3) (.slice za4 zn4 zc4) (.slice za5 zn5 zc5) (.slice za6 zn6 zc6) (.slice za7 zn7 zc7))) := XA0_a7.out.kt kt (by decide); clear o g B kt; have q0_8 : wa8.cell? ⟨W0.heap.size, 8, none⟩ = some (.int .i64 m.code) := X0_a8.out.cell 8 _ rfl))
  clear q0_8
  clear LBa7 HBa7 KAa7 SNa7 SRa7 XA0_a7 Ha7 Ka7 X0_a7
  have BDa8 : Hid (La8.length ≤ 80) := (by have e := BDa7.out; have f := Num.uv_length (m.cnt); have g := congrArg List.length HLa8.out; rw [List.length_append] at g; apply hide; omega)
  clear BDa7
  have LBa8 : Hid (La8.length + (ei (m.code)).length ≤ 140737488355328) := (by have e := BDa8.out; have f := ei_len (m.code); apply hide; omega)
  refine (refint_any wa8 (m.code) HM.out.code.1 HM.out.code.2).mono ?_
  rintro e waa8 ⟨vaa8, rfl, oa, ba⟩
  change Owns waa8 _ vaa8 (ei (m.code)) at oa
  obtain ⟨saa8, sca8, rfl, sn, sr⟩ := own_src oa
  have HBa8 : Hid (Bf W0 waa8 va8 La8) := Bf.up Ha8.out ba
  have KAa8 : Hid (KT W0 waa8) := (Ka8.out).trans (KT.of_below ba)
  have XA0_a8 : Hid (BxA waa8 (W0.heap.size) 46 (mbox m false (.slice za0 zn0 zc0) (.slice za1 zn1 zc1) (.slice za2 zn2 zc2) (.slice za3 zn3 zc3) (.slice za4 zn4 zc4) (.slice za5 zn5 zc5) (.slice za6 zn6 zc6) (.slice za7 zn7 zc7))) := X0_a8.out.kt (KT.of_below ba) (by decide)
  have SNa8 : Hid (saa8 = none → (ei (m.code)).length = 0 ∧ sca8 = 0) := sn
  have SRa8 : Hid _ := sr
  clear oa ba sn sr
  go_wp2_with (first | (at_builtin; refine wp_app rfl _ _ rfl W0.heap.size _ La8 (ei (m.code)) rfl HBa8.out.o _ _ _ rfl rfl SNa8.out SRa8.out LBa8.out HBa8.out.b.size ?_; intro va9 wa9 o g; obtain ⟨B, kt⟩ := HBa8.out.app o g; obtain ⟨La9, hL⟩ : ∃ L, L = La8 ++ (ei (m.code)) := ⟨_, rfl⟩; rw [← hL] at B; have HLa9 : Hid (La9 = La8 ++ (ei (m.code))) := hL; clear hL; have Ha9 : Hid (Bf W0 wa9 va9 La9) := B; have Ka9 : Hid (KT W0 wa9) := KAa8.out.trans kt; have X0_a9 : Hid (BxA wa9 (W0.heap.size) 46 (mbox m false (.slice za0 zn0 zc0) (.slice za1 zn1 zc1) (.slice za2 zn2 zc2) (.slice za3 zn3 zc3) (.slice za4 zn4 zc4) (.slice za5 zn5 zc5) (.slice za6 zn6 zc6) (.slice za7 zn7 zc7))) := XA0_a8.out.kt kt (by decide); clear o g B kt; have q0_9 : wa9.cell? ⟨W0.heap.size, 9, none⟩ = some (.int .i64 m.ft) := X0_a9.out.cell 9 _ rfl))
  clear q0_9
  clear LBa8 HBa8 KAa8 SNa8 SRa8 XA0_a8 Ha8 Ka8 X0_a8
  have BDa9 : Hid (La9.length ≤ 90) := (by have e := BDa8.out; have f := ei_len (m.code); have g := congrArg List.length HLa9.out; rw [List.length_append] at g; apply hide; omega)
  clear BDa8
  have LBa9 : Hid (La9.length + (ei (m.ft)).length ≤ 140737488355328) := (by have e := BDa9.out; have f := ei_len (m.ft); apply hide; omega)
  refine (refint_any wa9 (m.ft) HM.out.ft.1 HM.out.ft.2).mono ?_
  rintro e waa9 ⟨vaa9, rfl, oa, ba⟩
  change Owns waa9 _ vaa9 (ei (m.ft)) at oa
  obtain ⟨saa9, sca9, rfl, sn, sr⟩ := own_src oa
  have HBa9 : Hid (Bf W0 waa9 va9 La9) := Bf.up Ha9.out ba
  have KAa9 : Hid (KT W0 waa9) := (Ka9.out).trans (KT.of_below ba)
  have XA0_a9 : Hid (BxA waa9 (W0.heap.size) 46 (mbox m false (.slice za0 zn0 zc0) (.slice za1 zn1 zc1) (.slice za2 zn2 zc2) (.slice za3 zn3 zc3) (.slice za4 zn4 zc4) (.slice za5 zn5 zc5) (.slice za6 zn6 zc6) (.slice za7 zn7 zc7))) := X0_a9.out.kt (KT.of_below ba) (by decide)
  have SNa9 : Hid (saa9 = none → (ei (m.ft)).length = 0 ∧ sca9 = 0) := sn
  have SRa9 : Hid _ := sr
  clear oa ba sn sr
  go_wp2_with (first | (at_builtin; refine wp_app rfl _ _ rfl W0.heap.size _ La9 (ei (m.ft)) rfl HBa9.out.o _ _ _ rfl rfl SNa9.out SRa9.out LBa9.out HBa9.out.b.size ?_; intro va10 wa10 o g; obtain ⟨B, kt⟩ := HBa9.out.app o g; obtain ⟨La10, hL⟩ : ∃ L, L = La9 ++ (ei (m.ft)) := ⟨_, rfl⟩; rw [← hL] at B; have HLa10 : Hid (La10 = La9 ++ (ei (m.ft))) := hL; clear hL; have Ha10 : Hid (Bf W0 wa10 va10 La10) := B; have Ka10 : Hid (KT W0 wa10) := KAa9.out.trans kt; have X0_a10 : Hid (BxA wa10 (W0.heap.size) 46 (mbox m false (.slice za0 zn0 zc0) (.slice za1 zn1 zc1) (.slice za2 zn2 zc2) (.slice za3 zn3 zc3) (.slice za4 zn4 zc4) (.slice za5 zn5 zc5) (.slice za6 zn6 zc6) (.slice za7 zn7 zc7))) := XA0_a9.out.kt kt (by decide); clear o g B kt; have q0_10 : wa10.cell? ⟨W0.heap.size, 10, none⟩ = some (.slice za0 zn0 zc0) := X0_a10.out.cell 10 _ rfl))
  clear q0_10
  clear LBa9 HBa9 KAa9 SNa9 SRa9 XA0_a9 Ha9 Ka9 X0_a9
  have BDa10 : Hid (La10.length ≤ 100) := (by have e := BDa9.out; have f := ei_len (m.ft); have g := congrArg List.length HLa10.out; rw [List.length_append] at g; apply hide; omega)
  clear BDa9
  have LBa10 : Hid (La10.length + (r_txt m.fds).length ≤ 1099511627776) := (by have e := BDa10.out; have f := PT.out; apply hide; omega)
  refine (rtxt W0 wa10 va10 La10 _ m.fds HFD.out HM.out.fdt Ha10.out LBa10.out).mono ?_
  rintro e wa11 ⟨va11, rfl, B, kt⟩
  obtain ⟨La11, hL⟩ : ∃ L, L = La10 ++ (r_txt m.fds) := ⟨_, rfl⟩
  rw [← hL] at B
  have HLa11 : Hid (La11 = La10 ++ (r_txt m.fds)) := hL
  clear hL
  have Ha11 : Hid (Bf W0 wa11 va11 La11) := B
  have Ka11 : Hid (KT W0 wa11) := (Ka10.out).trans kt
  have X0_a11 : Hid (BxA wa11 (W0.heap.size) 46 (mbox m false (.slice za0 zn0 zc0) (.slice za1 zn1 zc1) (.slice za2 zn2 zc2) (.slice za3 zn3 zc3) (.slice za4 zn4 zc4) (.slice za5 zn5 zc5) (.slice za6 zn6 zc6) (.slice za7 zn7 zc7))) := X0_a10.out.kt (kt) (by decide)
  clear B kt
  have q0_11 : wa11.cell? ⟨W0.heap.size, 11, none⟩ = some (.slice za1 zn1 zc1) := X0_a11.out.cell 11 _ rfl
  go_wp2_with fail
  clear q0_11
  clear LBa10 Ha10 Ka10 X0_a10
  have BDa11 : Hid (La11.length ≤ 1073741924) := (by have e := BDa10.out; have f := PT.out; have g := congrArg List.length HLa11.out; rw [List.length_append] at g; apply hide; omega)
  clear BDa10
  have LBa11 : Hid (La11.length + (Num.uv (zn1)).length ≤ 140737488355328) := (by have e := BDa11.out; have f := Num.uv_length (zn1); apply hide; omega)
  refine (refuint_any wa11 (zn1) hu1).mono ?_
  rintro e waa11 ⟨vaa11, rfl, oa, ba⟩
  change Owns waa11 _ vaa11 (Num.uv (zn1)) at oa
  obtain ⟨saa11, sca11, rfl, sn, sr⟩ := own_src oa
  have HBa11 : Hid (Bf W0 waa11 va11 La11) := Bf.up Ha11.out ba
  have KAa11 : Hid (KT W0 waa11) := (Ka11.out).trans (KT.of_below ba)
  have XA0_a11 : Hid (BxA waa11 (W0.heap.size) 46 (mbox m false (.slice za0 zn0 zc0) (.slice za1 zn1 zc1) (.slice za2 zn2 zc2) (.slice za3 zn3 zc3) (.slice za4 zn4 zc4) (.slice za5 zn5 zc5) (.slice za6 zn6 zc6) (.slice za7 zn7 zc7))) := X0_a11.out.kt (KT.of_below ba) (by decide)
  have SNa11 : Hid (saa11 = none → (Num.uv (zn1)).length = 0 ∧ sca11 = 0) := sn
  have SRa11 : Hid _ := sr
  clear oa ba sn sr
  go_wp2_with (first | (at_builtin; refine wp_app rfl _ _ rfl W0.heap.size _ La11 (Num.uv (zn1)) rfl HBa11.out.o _ _ _ rfl rfl SNa11.out SRa11.out LBa11.out HBa11.out.b.size ?_; intro va12 wa12 o g; obtain ⟨B, kt⟩ := HBa11.out.app o g; obtain ⟨La12, hL⟩ : ∃ L, L = La11 ++ (Num.uv (zn1)) := ⟨_, rfl⟩; rw [← hL] at B; have HLa12 : Hid (La12 = La11 ++ (Num.uv (zn1))) := hL; clear hL; have Ha12 : Hid (Bf W0 wa12 va12 La12) := B; have Ka12 : Hid (KT W0 wa12) := KAa11.out.trans kt; have X0_a12 : Hid (BxA wa12 (W0.heap.size) 46 (mbox m false (.slice za0 zn0 zc0) (.slice za1 zn1 zc1) (.slice za2 zn2 zc2) (.slice za3 zn3 zc3) (.slice za4 zn4 zc4) (.slice za5 zn5 zc5) (.slice za6 zn6 zc6) (.slice za7 zn7 zc7))) := XA0_a11.out.kt kt (by decide); clear o g B kt; have q0_11 : wa12.cell? ⟨W0.heap.size, 11, none⟩ = some (.slice za1 zn1 zc1) := X0_a12.out.cell 11 _ rfl))
  clear q0_11
  clear LBa11 HBa11 KAa11 SNa11 SRa11 XA0_a11 Ha11 Ka11 X0_a11
  have BDa12 : Hid (La12.length ≤ 1073741934) := (by have e := BDa11.out; have f := Num.uv_length (zn1); have g := congrArg List.length HLa12.out; rw [List.length_append] at g; apply hide; omega)
  clear BDa11
  go_loopg [4, 5] zn1 (fun kx vb vi wr => ∃ (i : Nat) (x : Value), vi = .int .i64 (i : Int) ∧ x = vb ∧ i ≤ zn1 ∧ zn1 - i ≤ kx ∧ Hid (Bf W0 wr x (La12 ++ (m.fms.take i).flatMap ei)) ∧ Hid (KT W0 wr) ∧ Hid (BxA wr (W0.heap.size) 46 (mbox m false (.slice za0 zn0 zc0) (.slice za1 zn1 zc1) (.slice za2 zn2 zc2) (.slice za3 zn3 zc3) (.slice za4 zn4 zc4) (.slice za5 zn5 zc5) (.slice za6 zn6 zc6) (.slice za7 zn7 zc7))))
  case atStart => exact ⟨0, _, rfl, rfl, by omega, Nat.le_refl _, by apply hide; simpa using Ha12.out, Ka12.out, X0_a12.out⟩
  case round =>
    obtain ⟨i, vrb, rfl, rfl, hib, hkxb, HRb, KRb, XR0b⟩ := hrel
    have q0_11 : wr.cell? ⟨W0.heap.size, 11, none⟩ = some (.slice za1 zn1 zc1) := XR0b.out.cell 11 _ rfl
    by_cases hltb : i < zn1
    · have hltz : (i : Int) < (zn1 : Int) := by omega
      have hilb : i < m.fms.length := by have := HLN1.out; omega
      obtain ⟨bbb, offb, rfl, hblb, hcb⟩ := lst_cell (k := 1) (f := cl_i64) (by decide) (fun _ => rfl) HLS1.out (by omega)
      obtain ⟨Lrb, hLrb⟩ : ∃ L, L = La12 ++ (m.fms.take i).flatMap ei := ⟨_, rfl⟩
      have HLrb : Hid (Lrb = La12 ++ (m.fms.take i).flatMap ei) := hLrb
      have HRRb : Hid (Bf W0 wr vrb Lrb) := by apply hide; rw [hLrb]; exact HRb.out
      have hlen := rl_len ei m.fms i hilb
      have htk := rl_take ei m.fms i hilb
      obtain ⟨yb, hy⟩ : ∃ y, m.fms[i] = y := ⟨_, rfl⟩
      have hymb : yb ∈ m.fms := by rw [← hy]; exact List.getElem_mem hilb
      have Eb0 : Hid (W0.cell? ⟨bbb, offb + i, none⟩ = some (.int .i64 yb)) := by apply hide; have := hcb i hilb 0 (.int .i64 yb) (by omega) (by rw [hy]; rfl); simpa using this
      rw [hy] at hlen htk
      have HTKb : Hid _ := htk
      have HTb : Hid (Lrb.length + (ei yb).length ≤ 1099511627776) := by apply hide; have e := BDa12.out; have e2 := PM.out; rw [hLrb, List.length_append]; omega
      clear hlen htk hcb hLrb hy
      have rb0 : wr.cell? ⟨bbb, offb + i, none⟩ = some (.int .i64 yb) := cup HRRb.out.b Eb0.out
      go_wp2_with fail
      clear q0_11 rb0
      have LBb0 : Hid (Lrb.length + (ei (yb)).length ≤ 140737488355328) := (by have e := HTb.out; apply hide; omega)
      refine (refint_any wr (yb) (HM.out.fmz yb hymb).1 (HM.out.fmz yb hymb).2).mono ?_
      rintro e wab0 ⟨vab0, rfl, oa, ba⟩
      change Owns wab0 _ vab0 (ei (yb)) at oa
      obtain ⟨sab0, scb0, rfl, sn, sr⟩ := own_src oa
      have HBb0 : Hid (Bf W0 wab0 vrb Lrb) := Bf.up HRRb.out ba
      have KAb0 : Hid (KT W0 wab0) := (KRb.out).trans (KT.of_below ba)
      have XA0_b0 : Hid (BxA wab0 (W0.heap.size) 46 (mbox m false (.slice za0 zn0 zc0) (.slice (some ⟨bbb, offb, none⟩) zn1 zc1) (.slice za2 zn2 zc2) (.slice za3 zn3 zc3) (.slice za4 zn4 zc4) (.slice za5 zn5 zc5) (.slice za6 zn6 zc6) (.slice za7 zn7 zc7))) := XR0b.out.kt (KT.of_below ba) (by decide)
      have SNb0 : Hid (sab0 = none → (ei (yb)).length = 0 ∧ scb0 = 0) := sn
      have SRb0 : Hid _ := sr
      clear oa ba sn sr
      go_wp2_with (first | (at_builtin; refine wp_app rfl _ _ rfl W0.heap.size _ Lrb (ei (yb)) rfl HBb0.out.o _ _ _ rfl rfl SNb0.out SRb0.out LBb0.out HBb0.out.b.size ?_; intro vb1 wb1 o g; obtain ⟨B, kt⟩ := HBb0.out.app o g; obtain ⟨Lb1, hL⟩ : ∃ L, L = Lrb ++ (ei (yb)) := ⟨_, rfl⟩; rw [← hL] at B; have HLb1 : Hid (Lb1 = Lrb ++ (ei (yb))) := hL; clear hL; have Hb1 : Hid (Bf W0 wb1 vb1 Lb1) := B; have Kb1 : Hid (KT W0 wb1) := KAb0.out.trans kt; have X0_b1 : Hid (BxA wb1 (W0.heap.size) 46 (mbox m false (.slice za0 zn0 zc0) (.slice (some ⟨bbb, offb, none⟩) zn1 zc1) (.slice za2 zn2 zc2) (.slice za3 zn3 zc3) (.slice za4 zn4 zc4) (.slice za5 zn5 zc5) (.slice za6 zn6 zc6) (.slice za7 zn7 zc7))) := XA0_b0.out.kt kt (by decide); clear o g B kt; have q0_11 : wb1.cell? ⟨W0.heap.size, 11, none⟩ = some (.slice (some ⟨bbb, offb, none⟩) zn1 zc1) := X0_b1.out.cell 11 _ rfl; have rb0 : wb1.cell? ⟨bbb, offb + i, none⟩ = some (.int .i64 yb) := cup Hb1.out.b Eb0.out))
      clear q0_11 rb0
      clear LBb0 HBb0 KAb0 SNb0 SRb0 XA0_b0
      go_roundg (zn1 - (i + 1))
      case measure => omega
      case rel => exact ⟨i + 1, _, by go_num, rfl, by omega, Nat.le_refl _, by apply hide; rw [HTKb.out, ← List.append_assoc, ← HLrb.out]; have e : Lb1 = Lrb ++ ei yb := (by rw [HLb1.out]); rw [← e]; exact Hb1.out, Kb1.out, X0_b1.out⟩
    · have hltz : ¬ (i : Int) < (zn1 : Int) := by omega
      obtain ⟨LXb, hLX⟩ : ∃ L, L = La12 ++ m.fms.flatMap ei := ⟨_, rfl⟩
      have HLXb : Hid (LXb = La12 ++ m.fms.flatMap ei) := hLX
      have HRXb : Hid (Bf W0 wr vrb LXb) := by apply hide; rw [hLX]; have e := HRb.out; rwa [List.take_of_length_le (by have := HLN1.out; omega)] at e
      clear hLX
      have BDXb : Hid (LXb.length ≤ 2147483758) := (by have e := BDa12.out; have f := PM.out; have g := congrArg List.length HLXb.out; rw [List.length_append] at g; apply hide; omega)
      have q0_12 : wr.cell? ⟨W0.heap.size, 12, none⟩ = some (.int .i64 m.q.F) := XR0b.out.cell 12 _ rfl
      have q0_13 : wr.cell? ⟨W0.heap.size, 13, none⟩ = some (.int .i64 m.q.T) := XR0b.out.cell 13 _ rfl
      have q0_14 : wr.cell? ⟨W0.heap.size, 14, none⟩ = some (.int .i64 m.q.t.k) := XR0b.out.cell 14 _ rfl
      have q0_15 : wr.cell? ⟨W0.heap.size, 15, none⟩ = some (.int .i64 m.q.t.d) := XR0b.out.cell 15 _ rfl
      have q0_16 : wr.cell? ⟨W0.heap.size, 16, none⟩ = some (.slice za2 zn2 zc2) := XR0b.out.cell 16 _ rfl
      have q0_17 : wr.cell? ⟨W0.heap.size, 17, none⟩ = some (.int .i64 m.q.t.lo) := XR0b.out.cell 17 _ rfl
      have q0_18 : wr.cell? ⟨W0.heap.size, 18, none⟩ = some (.int .i64 m.q.t.hi) := XR0b.out.cell 18 _ rfl
      have q0_19 : wr.cell? ⟨W0.heap.size, 19, none⟩ = some (.slice za3 zn3 zc3) := XR0b.out.cell 19 _ rfl
      have q0_20 : wr.cell? ⟨W0.heap.size, 20, none⟩ = some (.int .i64 m.q.g) := XR0b.out.cell 20 _ rfl
      have q0_21 : wr.cell? ⟨W0.heap.size, 21, none⟩ = some (.slice za4 zn4 zc4) := XR0b.out.cell 21 _ rfl
      have q0_22 : wr.cell? ⟨W0.heap.size, 22, none⟩ = some (.slice za5 zn5 zc5) := XR0b.out.cell 22 _ rfl
      have q0_23 : wr.cell? ⟨W0.heap.size, 23, none⟩ = some (.int .i64 m.q.G) := XR0b.out.cell 23 _ rfl
      have q0_24 : wr.cell? ⟨W0.heap.size, 24, none⟩ = some (.int .i64 m.q.R) := XR0b.out.cell 24 _ rfl
      go_wp2_with fail
      clear q0_11 q0_12 q0_13 q0_14 q0_15 q0_16 q0_17 q0_18 q0_19 q0_20 q0_21 q0_22 q0_23 q0_24
      have LBc0 : Hid (LXb.length + (r_query m.q).length ≤ 1099511627776) := (by have e := BDXb.out; have f := PQ.out; apply hide; omega)
      refine (HKQ.out wr vrb LXb HRXb.out LBc0.out).mono ?_
      rintro e wc1 ⟨vc1, rfl, B, kt⟩
      obtain ⟨Lc1, hL⟩ : ∃ L, L = LXb ++ (r_query m.q) := ⟨_, rfl⟩
      rw [← hL] at B
      have HLc1 : Hid (Lc1 = LXb ++ (r_query m.q)) := hL
      clear hL
      have Hc1 : Hid (Bf W0 wc1 vc1 Lc1) := B
      have Kc1 : Hid (KT W0 wc1) := (KRb.out).trans kt
      have X0_c1 : Hid (BxA wc1 (W0.heap.size) 46 (mbox m false (.slice za0 zn0 zc0) (.slice za1 zn1 zc1) (.slice za2 zn2 zc2) (.slice za3 zn3 zc3) (.slice za4 zn4 zc4) (.slice za5 zn5 zc5) (.slice za6 zn6 zc6) (.slice za7 zn7 zc7))) := XR0b.out.kt (kt) (by decide)
      clear B kt
      have q0_25 : wc1.cell? ⟨W0.heap.size, 25, none⟩ = some (.int .i64 m.ps.F) := X0_c1.out.cell 25 _ rfl
      have q0_26 : wc1.cell? ⟨W0.heap.size, 26, none⟩ = some (.int .i64 m.ps.T) := X0_c1.out.cell 26 _ rfl
      have q0_27 : wc1.cell? ⟨W0.heap.size, 27, none⟩ = some (.int .i64 m.ps.V) := X0_c1.out.cell 27 _ rfl
      have q0_28 : wc1.cell? ⟨W0.heap.size, 28, none⟩ = some (.int .i64 m.ps.P) := X0_c1.out.cell 28 _ rfl
      have q0_29 : wc1.cell? ⟨W0.heap.size, 29, none⟩ = some (.int .i64 m.ps.C) := X0_c1.out.cell 29 _ rfl
      go_wp2_with fail
      clear q0_25 q0_26 q0_27 q0_28 q0_29
      clear LBc0
      have BDc1 : Hid (Lc1.length ≤ 3221225582) := (by have e := BDXb.out; have f := PQ.out; have g := congrArg List.length HLc1.out; rw [List.length_append] at g; apply hide; omega)
      have LBc1 : Hid (Lc1.length + (r_seg m.ps).length ≤ 1099511627776) := (by have e := BDc1.out; have f := PP.out; apply hide; omega)
      refine (rseg W0 wc1 vc1 Lc1 m.ps HM.out.ps Hc1.out LBc1.out).mono ?_
      rintro e wc2 ⟨vc2, rfl, B, kt⟩
      obtain ⟨Lc2, hL⟩ : ∃ L, L = Lc1 ++ (r_seg m.ps) := ⟨_, rfl⟩
      rw [← hL] at B
      have HLc2 : Hid (Lc2 = Lc1 ++ (r_seg m.ps)) := hL
      clear hL
      have Hc2 : Hid (Bf W0 wc2 vc2 Lc2) := B
      have Kc2 : Hid (KT W0 wc2) := (Kc1.out).trans kt
      have X0_c2 : Hid (BxA wc2 (W0.heap.size) 46 (mbox m false (.slice za0 zn0 zc0) (.slice za1 zn1 zc1) (.slice za2 zn2 zc2) (.slice za3 zn3 zc3) (.slice za4 zn4 zc4) (.slice za5 zn5 zc5) (.slice za6 zn6 zc6) (.slice za7 zn7 zc7))) := X0_c1.out.kt (kt) (by decide)
      clear B kt
      have q0_30 : wc2.cell? ⟨W0.heap.size, 30, none⟩ = some (.int .i64 m.pF) := X0_c2.out.cell 30 _ rfl
      have q0_31 : wc2.cell? ⟨W0.heap.size, 31, none⟩ = some (.int .i64 m.pT) := X0_c2.out.cell 31 _ rfl
      go_wp2_with fail
      clear q0_30 q0_31
      clear LBc1 Hc1 Kc1 X0_c1
      have BDc2 : Hid (Lc2.length ≤ 4294967406) := (by have e := BDc1.out; have f := PP.out; have g := congrArg List.length HLc2.out; rw [List.length_append] at g; apply hide; omega)
      clear BDc1
      have LBc2 : Hid (Lc2.length + (r_span m.pF m.pT).length ≤ 1099511627776) := (by have e := BDc2.out; have f := PS.out; apply hide; omega)
      refine (rspan W0 wc2 vc2 Lc2 m.pF m.pT HM.out.pF HM.out.pT Hc2.out LBc2.out).mono ?_
      rintro e wc3 ⟨vc3, rfl, B, kt⟩
      obtain ⟨Lc3, hL⟩ : ∃ L, L = Lc2 ++ (r_span m.pF m.pT) := ⟨_, rfl⟩
      rw [← hL] at B
      have HLc3 : Hid (Lc3 = Lc2 ++ (r_span m.pF m.pT)) := hL
      clear hL
      have Hc3 : Hid (Bf W0 wc3 vc3 Lc3) := B
      have Kc3 : Hid (KT W0 wc3) := (Kc2.out).trans kt
      have X0_c3 : Hid (BxA wc3 (W0.heap.size) 46 (mbox m false (.slice za0 zn0 zc0) (.slice za1 zn1 zc1) (.slice za2 zn2 zc2) (.slice za3 zn3 zc3) (.slice za4 zn4 zc4) (.slice za5 zn5 zc5) (.slice za6 zn6 zc6) (.slice za7 zn7 zc7))) := X0_c2.out.kt (kt) (by decide)
      clear B kt
      have zq0_32 : wc3.cell? ⟨W0.heap.size, 32, none⟩ = some (.bool false) := X0_c3.out.cell 32 _ rfl
      clear LBc2 Hc2 Kc2 X0_c2
      have BDc3 : Hid (Lc3.length ≤ 5368709230) := (by have e := BDc2.out; have f := PS.out; have g := congrArg List.length HLc3.out; rw [List.length_append] at g; apply hide; omega)
      clear BDc2
      have LBc3 : Hid (Lc3.length + ([0]).length ≤ 140737488355328) := (by have e := BDc3.out; have f := byte_len 0; apply hide; omega)
      go_wp2_with (first | (at_builtin; refine wp_app rfl _ _ rfl W0.heap.size _ Lc3 ([0]) rfl (Bf.alloc Hc3.out _).o _ _ _ rfl rfl (fun h => by cases h) (one_src _ 0) LBc3.out (Bf.alloc Hc3.out _).b.size ?_; intro vc4 wc4 o g; obtain ⟨B, kt⟩ := (Bf.alloc Hc3.out _).app o g; obtain ⟨Lc4, hL⟩ : ∃ L, L = Lc3 ++ ([0]) := ⟨_, rfl⟩; rw [← hL] at B; have HLc4 : Hid (Lc4 = Lc3 ++ ([0])) := hL; clear hL; have Hc4 : Hid (Bf W0 wc4 vc4 Lc4) := B; have Kc4 : Hid (KT W0 wc4) := (Kc3.out).trans ((KT.alloc _ _).trans kt); have X0_c4 : Hid (BxA wc4 (W0.heap.size) 46 (mbox m false (.slice za0 zn0 zc0) (.slice za1 zn1 zc1) (.slice za2 zn2 zc2) (.slice za3 zn3 zc3) (.slice za4 zn4 zc4) (.slice za5 zn5 zc5) (.slice za6 zn6 zc6) (.slice za7 zn7 zc7))) := (X0_c3.out.kt (KT.alloc _ _) (by decide)).kt kt (by decide); clear o g B kt; have q0_33 : wc4.cell? ⟨W0.heap.size, 33, none⟩ = some (.int .i64 m.os.F) := X0_c4.out.cell 33 _ rfl; have q0_34 : wc4.cell? ⟨W0.heap.size, 34, none⟩ = some (.int .i64 m.os.T) := X0_c4.out.cell 34 _ rfl; have q0_35 : wc4.cell? ⟨W0.heap.size, 35, none⟩ = some (.int .i64 m.os.V) := X0_c4.out.cell 35 _ rfl; have q0_36 : wc4.cell? ⟨W0.heap.size, 36, none⟩ = some (.int .i64 m.os.P) := X0_c4.out.cell 36 _ rfl; have q0_37 : wc4.cell? ⟨W0.heap.size, 37, none⟩ = some (.int .i64 m.os.C) := X0_c4.out.cell 37 _ rfl))
      clear q0_33 q0_34 q0_35 q0_36 q0_37 zq0_32
      clear LBc3 Hc3 Kc3 X0_c3
      have BDc4 : Hid (Lc4.length ≤ 5368709231) := (by have e := BDc3.out; have f := byte_len 0; have g := congrArg List.length HLc4.out; rw [List.length_append] at g; apply hide; omega)
      clear BDc3
      have LBc4 : Hid (Lc4.length + (r_seg m.os).length ≤ 1099511627776) := (by have e := BDc4.out; have f := PO.out; apply hide; omega)
      refine (rseg W0 wc4 vc4 Lc4 m.os HM.out.os Hc4.out LBc4.out).mono ?_
      rintro e wc5 ⟨vc5, rfl, B, kt⟩
      obtain ⟨Lc5, hL⟩ : ∃ L, L = Lc4 ++ (r_seg m.os) := ⟨_, rfl⟩
      rw [← hL] at B
      have HLc5 : Hid (Lc5 = Lc4 ++ (r_seg m.os)) := hL
      clear hL
      have Hc5 : Hid (Bf W0 wc5 vc5 Lc5) := B
      have Kc5 : Hid (KT W0 wc5) := (Kc4.out).trans kt
      have X0_c5 : Hid (BxA wc5 (W0.heap.size) 46 (mbox m false (.slice za0 zn0 zc0) (.slice za1 zn1 zc1) (.slice za2 zn2 zc2) (.slice za3 zn3 zc3) (.slice za4 zn4 zc4) (.slice za5 zn5 zc5) (.slice za6 zn6 zc6) (.slice za7 zn7 zc7))) := X0_c4.out.kt (kt) (by decide)
      clear B kt
      have q0_38 : wc5.cell? ⟨W0.heap.size, 38, none⟩ = some (.int .i64 m.on) := X0_c5.out.cell 38 _ rfl
      go_wp2_with fail
      clear q0_38
      clear LBc4 Hc4 Kc4 X0_c4
      have BDc5 : Hid (Lc5.length ≤ 6442451055) := (by have e := BDc4.out; have f := PO.out; have g := congrArg List.length HLc5.out; rw [List.length_append] at g; apply hide; omega)
      clear BDc4
      have LBc5 : Hid (Lc5.length + (ei (m.on)).length ≤ 140737488355328) := (by have e := BDc5.out; have f := ei_len (m.on); apply hide; omega)
      refine (refint_any wc5 (m.on) HM.out.on.1 HM.out.on.2).mono ?_
      rintro e wac5 ⟨vac5, rfl, oa, ba⟩
      change Owns wac5 _ vac5 (ei (m.on)) at oa
      obtain ⟨sac5, scc5, rfl, sn, sr⟩ := own_src oa
      have HBc5 : Hid (Bf W0 wac5 vc5 Lc5) := Bf.up Hc5.out ba
      have KAc5 : Hid (KT W0 wac5) := (Kc5.out).trans (KT.of_below ba)
      have XA0_c5 : Hid (BxA wac5 (W0.heap.size) 46 (mbox m false (.slice za0 zn0 zc0) (.slice za1 zn1 zc1) (.slice za2 zn2 zc2) (.slice za3 zn3 zc3) (.slice za4 zn4 zc4) (.slice za5 zn5 zc5) (.slice za6 zn6 zc6) (.slice za7 zn7 zc7))) := X0_c5.out.kt (KT.of_below ba) (by decide)
      have SNc5 : Hid (sac5 = none → (ei (m.on)).length = 0 ∧ scc5 = 0) := sn
      have SRc5 : Hid _ := sr
      clear oa ba sn sr
      go_wp2_with (first | (at_builtin; refine wp_app rfl _ _ rfl W0.heap.size _ Lc5 (ei (m.on)) rfl HBc5.out.o _ _ _ rfl rfl SNc5.out SRc5.out LBc5.out HBc5.out.b.size ?_; intro vc6 wc6 o g; obtain ⟨B, kt⟩ := HBc5.out.app o g; obtain ⟨Lc6, hL⟩ : ∃ L, L = Lc5 ++ (ei (m.on)) := ⟨_, rfl⟩; rw [← hL] at B; have HLc6 : Hid (Lc6 = Lc5 ++ (ei (m.on))) := hL; clear hL; have Hc6 : Hid (Bf W0 wc6 vc6 Lc6) := B; have Kc6 : Hid (KT W0 wc6) := KAc5.out.trans kt; have X0_c6 : Hid (BxA wc6 (W0.heap.size) 46 (mbox m false (.slice za0 zn0 zc0) (.slice za1 zn1 zc1) (.slice za2 zn2 zc2) (.slice za3 zn3 zc3) (.slice za4 zn4 zc4) (.slice za5 zn5 zc5) (.slice za6 zn6 zc6) (.slice za7 zn7 zc7))) := XA0_c5.out.kt kt (by decide); clear o g B kt; have q0_39 : wc6.cell? ⟨W0.heap.size, 39, none⟩ = some (.slice za6 zn6 zc6) := X0_c6.out.cell 39 _ rfl))
      clear q0_39
      clear LBc5 HBc5 KAc5 SNc5 SRc5 XA0_c5 Hc5 Kc5 X0_c5
      have BDc6 : Hid (Lc6.length ≤ 6442451065) := (by have e := BDc5.out; have f := ei_len (m.on); have g := congrArg List.length HLc6.out; rw [List.length_append] at g; apply hide; omega)
      clear BDc5
      have LBc6 : Hid (Lc6.length + (Num.uv (zn6)).length ≤ 140737488355328) := (by have e := BDc6.out; have f := Num.uv_length (zn6); apply hide; omega)
      refine (refuint_any wc6 (zn6) hu6).mono ?_
      rintro e wac6 ⟨vac6, rfl, oa, ba⟩
      change Owns wac6 _ vac6 (Num.uv (zn6)) at oa
      obtain ⟨sac6, scc6, rfl, sn, sr⟩ := own_src oa
      have HBc6 : Hid (Bf W0 wac6 vc6 Lc6) := Bf.up Hc6.out ba
      have KAc6 : Hid (KT W0 wac6) := (Kc6.out).trans (KT.of_below ba)
      have XA0_c6 : Hid (BxA wac6 (W0.heap.size) 46 (mbox m false (.slice za0 zn0 zc0) (.slice za1 zn1 zc1) (.slice za2 zn2 zc2) (.slice za3 zn3 zc3) (.slice za4 zn4 zc4) (.slice za5 zn5 zc5) (.slice za6 zn6 zc6) (.slice za7 zn7 zc7))) := X0_c6.out.kt (KT.of_below ba) (by decide)
      have SNc6 : Hid (sac6 = none → (Num.uv (zn6)).length = 0 ∧ scc6 = 0) := sn
      have SRc6 : Hid _ := sr
      clear oa ba sn sr
      go_wp2_with (first | (at_builtin; refine wp_app rfl _ _ rfl W0.heap.size _ Lc6 (Num.uv (zn6)) rfl HBc6.out.o _ _ _ rfl rfl SNc6.out SRc6.out LBc6.out HBc6.out.b.size ?_; intro vc7 wc7 o g; obtain ⟨B, kt⟩ := HBc6.out.app o g; obtain ⟨Lc7, hL⟩ : ∃ L, L = Lc6 ++ (Num.uv (zn6)) := ⟨_, rfl⟩; rw [← hL] at B; have HLc7 : Hid (Lc7 = Lc6 ++ (Num.uv (zn6))) := hL; clear hL; have Hc7 : Hid (Bf W0 wc7 vc7 Lc7) := B; have Kc7 : Hid (KT W0 wc7) := KAc6.out.trans kt; have X0_c7 : Hid (BxA wc7 (W0.heap.size) 46 (mbox m false (.slice za0 zn0 zc0) (.slice za1 zn1 zc1) (.slice za2 zn2 zc2) (.slice za3 zn3 zc3) (.slice za4 zn4 zc4) (.slice za5 zn5 zc5) (.slice za6 zn6 zc6) (.slice za7 zn7 zc7))) := XA0_c6.out.kt kt (by decide); clear o g B kt; have q0_39 : wc7.cell? ⟨W0.heap.size, 39, none⟩ = some (.slice za6 zn6 zc6) := X0_c7.out.cell 39 _ rfl))
      clear q0_39
      clear LBc6 HBc6 KAc6 SNc6 SRc6 XA0_c6 Hc6 Kc6 X0_c6
      have BDc7 : Hid (Lc7.length ≤ 6442451075) := (by have e := BDc6.out; have f := Num.uv_length (zn6); have g := congrArg List.length HLc7.out; rw [List.length_append] at g; apply hide; omega)
      clear BDc6
      go_loopg [4, 6] zn6 (fun kx vb vi wr => ∃ (i : Nat) (x : Value), vi = .int .i64 (i : Int) ∧ x = vb ∧ i ≤ zn6 ∧ zn6 - i ≤ kx ∧ Hid (Bf W0 wr x (Lc7 ++ (m.sg.take i).flatMap r_seg)) ∧ Hid (KT W0 wr) ∧ Hid (BxA wr (W0.heap.size) 46 (mbox m false (.slice za0 zn0 zc0) (.slice za1 zn1 zc1) (.slice za2 zn2 zc2) (.slice za3 zn3 zc3) (.slice za4 zn4 zc4) (.slice za5 zn5 zc5) (.slice za6 zn6 zc6) (.slice za7 zn7 zc7))))
      case atStart => exact ⟨0, _, rfl, rfl, by omega, Nat.le_refl _, by apply hide; simpa using Hc7.out, Kc7.out, X0_c7.out⟩
      case round =>
        obtain ⟨i, vrd, rfl, rfl, hid, hkxd, HRd, KRd, XR0d⟩ := hrel
        have q0_39 : wr.cell? ⟨W0.heap.size, 39, none⟩ = some (.slice za6 zn6 zc6) := XR0d.out.cell 39 _ rfl
        by_cases hltd : i < zn6
        · have hltz : (i : Int) < (zn6 : Int) := by omega
          have hild : i < m.sg.length := by have := HLN6.out; omega
          obtain ⟨bbd, offd, rfl, hbld, hcd⟩ := lst_cell (k := 5) (f := cl_seg) (by decide) (fun _ => rfl) HLS6.out (by omega)
          obtain ⟨Lrd, hLrd⟩ : ∃ L, L = Lc7 ++ (m.sg.take i).flatMap r_seg := ⟨_, rfl⟩
          have HLrd : Hid (Lrd = Lc7 ++ (m.sg.take i).flatMap r_seg) := hLrd
          have HRRd : Hid (Bf W0 wr vrd Lrd) := by apply hide; rw [hLrd]; exact HRd.out
          have hlen := rl_len r_seg m.sg i hild
          have htk := rl_take r_seg m.sg i hild
          obtain ⟨yd, hy⟩ : ∃ y, m.sg[i] = y := ⟨_, rfl⟩
          have hymd : yd ∈ m.sg := by rw [← hy]; exact List.getElem_mem hild
          have Ed0 : Hid (W0.cell? ⟨bbd, offd + i * 5, none⟩ = some (.int .i64 yd.F)) := by apply hide; have := hcd i hild 0 (.int .i64 yd.F) (by omega) (by rw [hy]; rfl); simpa [Nat.add_assoc] using this
          have Ed1 : Hid (W0.cell? ⟨bbd, offd + i * 5 + 1, none⟩ = some (.int .i64 yd.T)) := by apply hide; have := hcd i hild 1 (.int .i64 yd.T) (by omega) (by rw [hy]; rfl); simpa [Nat.add_assoc] using this
          have Ed2 : Hid (W0.cell? ⟨bbd, offd + i * 5 + 2, none⟩ = some (.int .i64 yd.V)) := by apply hide; have := hcd i hild 2 (.int .i64 yd.V) (by omega) (by rw [hy]; rfl); simpa [Nat.add_assoc] using this
          have Ed3 : Hid (W0.cell? ⟨bbd, offd + i * 5 + 3, none⟩ = some (.int .i64 yd.P)) := by apply hide; have := hcd i hild 3 (.int .i64 yd.P) (by omega) (by rw [hy]; rfl); simpa [Nat.add_assoc] using this
          have Ed4 : Hid (W0.cell? ⟨bbd, offd + i * 5 + 4, none⟩ = some (.int .i64 yd.C)) := by apply hide; have := hcd i hild 4 (.int .i64 yd.C) (by omega) (by rw [hy]; rfl); simpa [Nat.add_assoc] using this
          rw [hy] at hlen htk
          have HTKd : Hid _ := htk
          have HTd : Hid (Lrd.length + (r_seg yd).length ≤ 1099511627776) := by apply hide; have e := BDc7.out; have e2 := PG.out; rw [hLrd, List.length_append]; omega
          clear hlen htk hcd hLrd hy
          have rd0 : wr.cell? ⟨bbd, offd + i * 5, none⟩ = some (.int .i64 yd.F) := cup HRRd.out.b Ed0.out
          have rd1 : wr.cell? ⟨bbd, offd + i * 5 + 1, none⟩ = some (.int .i64 yd.T) := cup HRRd.out.b Ed1.out
          have rd2 : wr.cell? ⟨bbd, offd + i * 5 + 2, none⟩ = some (.int .i64 yd.V) := cup HRRd.out.b Ed2.out
          have rd3 : wr.cell? ⟨bbd, offd + i * 5 + 3, none⟩ = some (.int .i64 yd.P) := cup HRRd.out.b Ed3.out
          have rd4 : wr.cell? ⟨bbd, offd + i * 5 + 4, none⟩ = some (.int .i64 yd.C) := cup HRRd.out.b Ed4.out
          go_wp2_with fail
          clear q0_39 rd0 rd1 rd2 rd3 rd4
          have LBd0 : Hid (Lrd.length + (r_seg yd).length ≤ 1099511627776) := (by have e := HTd.out; apply hide; omega)
          refine (rseg W0 wr vrd Lrd yd (HM.out.si yd hymd) HRRd.out LBd0.out).mono ?_
          rintro e wd1 ⟨vd1, rfl, B, kt⟩
          obtain ⟨Ld1, hL⟩ : ∃ L, L = Lrd ++ (r_seg yd) := ⟨_, rfl⟩
          rw [← hL] at B
          have HLd1 : Hid (Ld1 = Lrd ++ (r_seg yd)) := hL
          clear hL
          have Hd1 : Hid (Bf W0 wd1 vd1 Ld1) := B
          have Kd1 : Hid (KT W0 wd1) := (KRd.out).trans kt
          have X0_d1 : Hid (BxA wd1 (W0.heap.size) 46 (mbox m false (.slice za0 zn0 zc0) (.slice za1 zn1 zc1) (.slice za2 zn2 zc2) (.slice za3 zn3 zc3) (.slice za4 zn4 zc4) (.slice za5 zn5 zc5) (.slice (some ⟨bbd, offd, none⟩) zn6 zc6) (.slice za7 zn7 zc7))) := XR0d.out.kt (kt) (by decide)
          clear B kt
          have q0_39 : wd1.cell? ⟨W0.heap.size, 39, none⟩ = some (.slice (some ⟨bbd, offd, none⟩) zn6 zc6) := X0_d1.out.cell 39 _ rfl
          have rd0 : wd1.cell? ⟨bbd, offd + i * 5, none⟩ = some (.int .i64 yd.F) := cup Hd1.out.b Ed0.out
          have rd1 : wd1.cell? ⟨bbd, offd + i * 5 + 1, none⟩ = some (.int .i64 yd.T) := cup Hd1.out.b Ed1.out
          have rd2 : wd1.cell? ⟨bbd, offd + i * 5 + 2, none⟩ = some (.int .i64 yd.V) := cup Hd1.out.b Ed2.out
          have rd3 : wd1.cell? ⟨bbd, offd + i * 5 + 3, none⟩ = some (.int .i64 yd.P) := cup Hd1.out.b Ed3.out
          have rd4 : wd1.cell? ⟨bbd, offd + i * 5 + 4, none⟩ = some (.int .i64 yd.C) := cup Hd1.out.b Ed4.out
          go_wp2_with fail
          clear q0_39 rd0 rd1 rd2 rd3 rd4
          clear LBd0
          go_roundg (zn6 - (i + 1))
          case measure => omega
          case rel => exact ⟨i + 1, _, by go_num, rfl, by omega, Nat.le_refl _, by apply hide; rw [HTKd.out, ← List.append_assoc, ← HLrd.out]; have e : Ld1 = Lrd ++ r_seg yd := (by rw [HLd1.out]); rw [← e]; exact Hd1.out, Kd1.out, X0_d1.out⟩
        · have hltz : ¬ (i : Int) < (zn6 : Int) := by omega
          obtain ⟨LXd, hLX⟩ : ∃ L, L = Lc7 ++ m.sg.flatMap r_seg := ⟨_, rfl⟩
          have HLXd : Hid (LXd = Lc7 ++ m.sg.flatMap r_seg) := hLX
          have HRXd : Hid (Bf W0 wr vrd LXd) := by apply hide; rw [hLX]; have e := HRd.out; rwa [List.take_of_length_le (by have := HLN6.out; omega)] at e
          clear hLX
          have BDXd : Hid (LXd.length ≤ 7516192899) := (by have e := BDc7.out; have f := PG.out; have g := congrArg List.length HLXd.out; rw [List.length_append] at g; apply hide; omega)
          have q0_40 : wr.cell? ⟨W0.heap.size, 40, none⟩ = some (.slice za7 zn7 zc7) := XR0d.out.cell 40 _ rfl
          go_wp2_with fail
          clear q0_39 q0_40
          have LBe0 : Hid (LXd.length + (Num.uv (zn7)).length ≤ 140737488355328) := (by have e := BDXd.out; have f := Num.uv_length (zn7); apply hide; omega)
          refine (refuint_any wr (zn7) hu7).mono ?_
          rintro e wae0 ⟨vae0, rfl, oa, ba⟩
          change Owns wae0 _ vae0 (Num.uv (zn7)) at oa
          obtain ⟨sae0, sce0, rfl, sn, sr⟩ := own_src oa
          have HBe0 : Hid (Bf W0 wae0 vrd LXd) := Bf.up HRXd.out ba
          have KAe0 : Hid (KT W0 wae0) := (KRd.out).trans (KT.of_below ba)
          have XA0_e0 : Hid (BxA wae0 (W0.heap.size) 46 (mbox m false (.slice za0 zn0 zc0) (.slice za1 zn1 zc1) (.slice za2 zn2 zc2) (.slice za3 zn3 zc3) (.slice za4 zn4 zc4) (.slice za5 zn5 zc5) (.slice za6 zn6 zc6) (.slice za7 zn7 zc7))) := XR0d.out.kt (KT.of_below ba) (by decide)
          have SNe0 : Hid (sae0 = none → (Num.uv (zn7)).length = 0 ∧ sce0 = 0) := sn
          have SRe0 : Hid _ := sr
          clear oa ba sn sr
          go_wp2_with (first | (at_builtin; refine wp_app rfl _ _ rfl W0.heap.size _ LXd (Num.uv (zn7)) rfl HBe0.out.o _ _ _ rfl rfl SNe0.out SRe0.out LBe0.out HBe0.out.b.size ?_; intro ve1 we1 o g; obtain ⟨B, kt⟩ := HBe0.out.app o g; obtain ⟨Le1, hL⟩ : ∃ L, L = LXd ++ (Num.uv (zn7)) := ⟨_, rfl⟩; rw [← hL] at B; have HLe1 : Hid (Le1 = LXd ++ (Num.uv (zn7))) := hL; clear hL; have He1 : Hid (Bf W0 we1 ve1 Le1) := B; have Ke1 : Hid (KT W0 we1) := KAe0.out.trans kt; have X0_e1 : Hid (BxA we1 (W0.heap.size) 46 (mbox m false (.slice za0 zn0 zc0) (.slice za1 zn1 zc1) (.slice za2 zn2 zc2) (.slice za3 zn3 zc3) (.slice za4 zn4 zc4) (.slice za5 zn5 zc5) (.slice za6 zn6 zc6) (.slice za7 zn7 zc7))) := XA0_e0.out.kt kt (by decide); clear o g B kt; have q0_40 : we1.cell? ⟨W0.heap.size, 40, none⟩ = some (.slice za7 zn7 zc7) := X0_e1.out.cell 40 _ rfl))
          clear q0_40
          clear LBe0 HBe0 KAe0 SNe0 SRe0 XA0_e0
          have BDe1 : Hid (Le1.length ≤ 7516192909) := (by have e := BDXd.out; have f := Num.uv_length (zn7); have g := congrArg List.length HLe1.out; rw [List.length_append] at g; apply hide; omega)
          go_loopg [4, 7] zn7 (fun kx vb vi wr => ∃ (i : Nat) (x : Value), vi = .int .i64 (i : Int) ∧ x = vb ∧ i ≤ zn7 ∧ zn7 - i ≤ kx ∧ Hid (Bf W0 wr x (Le1 ++ (m.gp.take i).flatMap r_grp)) ∧ Hid (KT W0 wr) ∧ Hid (BxA wr (W0.heap.size) 46 (mbox m false (.slice za0 zn0 zc0) (.slice za1 zn1 zc1) (.slice za2 zn2 zc2) (.slice za3 zn3 zc3) (.slice za4 zn4 zc4) (.slice za5 zn5 zc5) (.slice za6 zn6 zc6) (.slice za7 zn7 zc7))))
          case atStart => exact ⟨0, _, rfl, rfl, by omega, Nat.le_refl _, by apply hide; simpa using He1.out, Ke1.out, X0_e1.out⟩
          case round =>
            obtain ⟨i, vrf, rfl, rfl, hif, hkxf, HRf, KRf, XR0f⟩ := hrel
            have q0_40 : wr.cell? ⟨W0.heap.size, 40, none⟩ = some (.slice za7 zn7 zc7) := XR0f.out.cell 40 _ rfl
            by_cases hltf : i < zn7
            · have hltz : (i : Int) < (zn7 : Int) := by omega
              have hilf : i < m.gp.length := by have := HLN7.out; omega
              obtain ⟨bbf, offf, rfl, hblf, hcf⟩ := lst_cell (k := 4) (f := cl_grp) (by decide) (fun _ => rfl) HLS7.out (by omega)
              obtain ⟨Lrf, hLrf⟩ : ∃ L, L = Le1 ++ (m.gp.take i).flatMap r_grp := ⟨_, rfl⟩
              have HLrf : Hid (Lrf = Le1 ++ (m.gp.take i).flatMap r_grp) := hLrf
              have HRRf : Hid (Bf W0 wr vrf Lrf) := by apply hide; rw [hLrf]; exact HRf.out
              have hlen := rl_len r_grp m.gp i hilf
              have htk := rl_take r_grp m.gp i hilf
              obtain ⟨yf, hy⟩ : ∃ y, m.gp[i] = y := ⟨_, rfl⟩
              have hymf : yf ∈ m.gp := by rw [← hy]; exact List.getElem_mem hilf
              have Ef0 : Hid (W0.cell? ⟨bbf, offf + i * 4, none⟩ = some (.int .i64 yf.s)) := by apply hide; have := hcf i hilf 0 (.int .i64 yf.s) (by omega) (by rw [hy]; rfl); simpa [Nat.add_assoc] using this
              have Ef1 : Hid (W0.cell? ⟨bbf, offf + i * 4 + 1, none⟩ = some (.int .i64 yf.b)) := by apply hide; have := hcf i hilf 1 (.int .i64 yf.b) (by omega) (by rw [hy]; rfl); simpa [Nat.add_assoc] using this
              have Ef2 : Hid (W0.cell? ⟨bbf, offf + i * 4 + 2, none⟩ = some (yf.dv)) := by apply hide; have := hcf i hilf 2 (yf.dv) (by omega) (by rw [hy]; rfl); simpa [Nat.add_assoc] using this
              have Ef3 : Hid (W0.cell? ⟨bbf, offf + i * 4 + 3, none⟩ = some (yf.pv)) := by apply hide; have := hcf i hilf 3 (yf.pv) (by omega) (by rw [hy]; rfl); simpa [Nat.add_assoc] using this
              rw [hy] at hlen htk
              have HTKf : Hid _ := htk
              have HTf : Hid (Lrf.length + (r_grp yf).length ≤ 1099511627776) := by apply hide; have e := BDe1.out; have e2 := PR.out; rw [hLrf, List.length_append]; omega
              clear hlen htk hcf hLrf hy
              have gok := HM.out.go yf hymf
              obtain ⟨ga0, gc0, ge0, -, -⟩ := gok.r.sl
              obtain ⟨ga1, gc1, ge1, gl1, gh1⟩ := gok.p.sl
              unfold maxLen at gh1
              have gRr := gok.r
              have gPp := gok.p
              obtain ⟨gn0, hgn0⟩ : ∃ n, n = yf.ds.length := ⟨_, rfl⟩
              obtain ⟨gn1, hgn1⟩ : ∃ n, n = yf.ps.length := ⟨_, rfl⟩
              rw [← hgn0] at ge0
              rw [← hgn1] at ge1 gl1
              rw [ge0] at gRr Ef2
              rw [ge1] at gPp Ef3
              have HGR : Hid (Lst 1 cl_str W0 (.slice ga0 gn0 gc0) yf.ds) := gRr
              have HLSP : Hid (Lst 3 cl_prt W0 (.slice ga1 gn1 gc1) yf.ps) := gPp
              have HLNP : Hid (gn1 = yf.ps.length) := hgn1
              have HGO : Aside (yf.Ok W0) := gok
              have hug : gn1 < 18446744073709551616 := by omega
              clear gok ge0 ge1 gRr gPp hgn0 hgn1
              have rf0 : wr.cell? ⟨bbf, offf + i * 4, none⟩ = some (.int .i64 yf.s) := cup HRRf.out.b Ef0.out
              have rf1 : wr.cell? ⟨bbf, offf + i * 4 + 1, none⟩ = some (.int .i64 yf.b) := cup HRRf.out.b Ef1.out
              have rf2 : wr.cell? ⟨bbf, offf + i * 4 + 2, none⟩ = some (.slice ga0 gn0 gc0) := cup HRRf.out.b Ef2.out
              have rf3 : wr.cell? ⟨bbf, offf + i * 4 + 3, none⟩ = some (.slice ga1 gn1 gc1) := cup HRRf.out.b Ef3.out
              obtain ⟨gB, hgB⟩ : ∃ g, g = wr.heap.size := ⟨_, rfl⟩
              have HGB : Hid (gB = wr.heap.size) := hgB
              clear hgB
              go_wp2_with fail
              rw [← HGB.out]
              clear q0_40 rf0 rf1 rf2 rf3
              have XG0 : Hid (BxA (wr.alloc (.cells #[.int .i64 yf.s, .int .i64 yf.b, .slice ga0 gn0 gc0, .slice ga1 gn1 gc1] 77)) gB 77 #[.int .i64 yf.s, .int .i64 yf.b, .slice ga0 gn0 gc0, .slice ga1 gn1 gc1]) := by apply hide; rw [HGB.out]; exact BxA.new _ _ _
              have LBg0 : Hid (Lrf.length + (ei (yf.s)).length ≤ 140737488355328) := (by have e := HTf.out; simp only [r_grp, List.length_append] at e; simp only [← HLNP.out] at e; apply hide; omega)
              refine (refint_any _ (yf.s) HGO.out.s.1 HGO.out.s.2).mono ?_
              rintro e wag0 ⟨vag0, rfl, oa, ba⟩
              change Owns wag0 _ vag0 (ei (yf.s)) at oa
              obtain ⟨sag0, scg0, rfl, sn, sr⟩ := own_src oa
              have HBg0 : Hid (Bf W0 wag0 vrf Lrf) := Bf.up (HRRf.out.alloc _) ba
              have KAg0 : Hid (KT W0 wag0) := ((KRf.out).trans (KT.alloc _ _)).trans (KT.of_below ba)
              have XA0_g0 : Hid (BxA wag0 (W0.heap.size) 46 (mbox m false (.slice za0 zn0 zc0) (.slice za1 zn1 zc1) (.slice za2 zn2 zc2) (.slice za3 zn3 zc3) (.slice za4 zn4 zc4) (.slice za5 zn5 zc5) (.slice za6 zn6 zc6) (.slice (some ⟨bbf, offf, none⟩) zn7 zc7))) := (XR0f.out.kt (KT.alloc _ _) (by decide)).kt (KT.of_below ba) (by decide)
              have XA1_g0 : Hid (BxA wag0 (gB) 77 #[.int .i64 yf.s, .int .i64 yf.b, .slice ga0 gn0 gc0, .slice ga1 gn1 gc1]) := by apply hide; simpa using (XG0.out).kt (KT.of_below ba) (by decide)
              have SNg0 : Hid (sag0 = none → (ei (yf.s)).length = 0 ∧ scg0 = 0) := sn
              have SRg0 : Hid _ := sr
              clear oa ba sn sr
              go_wp2_with (first | (at_builtin; refine wp_app rfl _ _ rfl W0.heap.size _ Lrf (ei (yf.s)) rfl HBg0.out.o _ _ _ rfl rfl SNg0.out SRg0.out LBg0.out HBg0.out.b.size ?_; intro vg1 wg1 o g; obtain ⟨B, kt⟩ := HBg0.out.app o g; obtain ⟨Lg1, hL⟩ : ∃ L, L = Lrf ++ (ei (yf.s)) := ⟨_, rfl⟩; rw [← hL] at B; have HLg1 : Hid (Lg1 = Lrf ++ (ei (yf.s))) := hL; clear hL; have Hg1 : Hid (Bf W0 wg1 vg1 Lg1) := B; have Kg1 : Hid (KT W0 wg1) := KAg0.out.trans kt; have X0_g1 : Hid (BxA wg1 (W0.heap.size) 46 (mbox m false (.slice za0 zn0 zc0) (.slice za1 zn1 zc1) (.slice za2 zn2 zc2) (.slice za3 zn3 zc3) (.slice za4 zn4 zc4) (.slice za5 zn5 zc5) (.slice za6 zn6 zc6) (.slice (some ⟨bbf, offf, none⟩) zn7 zc7))) := XA0_g0.out.kt kt (by decide); have X1_g1 : Hid (BxA wg1 (gB) 77 #[.int .i64 yf.s, .int .i64 yf.b, .slice ga0 gn0 gc0, .slice ga1 gn1 gc1]) := XA1_g0.out.kt kt (by decide); clear o g B kt; have q0_40 : wg1.cell? ⟨W0.heap.size, 40, none⟩ = some (.slice (some ⟨bbf, offf, none⟩) zn7 zc7) := X0_g1.out.cell 40 _ rfl; have q1_0 : wg1.cell? ⟨gB, 0, none⟩ = some (.int .i64 yf.s) := X1_g1.out.cell 0 _ rfl; have q1_1 : wg1.cell? ⟨gB, 1, none⟩ = some (.int .i64 yf.b) := X1_g1.out.cell 1 _ rfl; have q1_2 : wg1.cell? ⟨gB, 2, none⟩ = some (.slice ga0 gn0 gc0) := X1_g1.out.cell 2 _ rfl; have q1_3 : wg1.cell? ⟨gB, 3, none⟩ = some (.slice ga1 gn1 gc1) := X1_g1.out.cell 3 _ rfl; have rf0 : wg1.cell? ⟨bbf, offf + i * 4, none⟩ = some (.int .i64 yf.s) := cup Hg1.out.b Ef0.out; have rf1 : wg1.cell? ⟨bbf, offf + i * 4 + 1, none⟩ = some (.int .i64 yf.b) := cup Hg1.out.b Ef1.out; have rf2 : wg1.cell? ⟨bbf, offf + i * 4 + 2, none⟩ = some (.slice ga0 gn0 gc0) := cup Hg1.out.b Ef2.out; have rf3 : wg1.cell? ⟨bbf, offf + i * 4 + 3, none⟩ = some (.slice ga1 gn1 gc1) := cup Hg1.out.b Ef3.out))
              clear q0_40 q1_0 q1_1 q1_2 q1_3 rf0 rf1 rf2 rf3
              clear LBg0 HBg0 KAg0 SNg0 SRg0 XA0_g0 XA1_g0
              have LBg1 : Hid (Lg1.length + (ei (yf.b)).length ≤ 140737488355328) := (by have e := HTf.out; simp only [r_grp, List.length_append] at e; simp only [← HLNP.out] at e; have e0 := congrArg List.length HLg1.out; simp only [List.length_append] at e0; apply hide; omega)
              refine (refint_any wg1 (yf.b) HGO.out.b.1 HGO.out.b.2).mono ?_
              rintro e wag1 ⟨vag1, rfl, oa, ba⟩
              change Owns wag1 _ vag1 (ei (yf.b)) at oa
              obtain ⟨sag1, scg1, rfl, sn, sr⟩ := own_src oa
              have HBg1 : Hid (Bf W0 wag1 vg1 Lg1) := Bf.up Hg1.out ba
              have KAg1 : Hid (KT W0 wag1) := (Kg1.out).trans (KT.of_below ba)
              have XA0_g1 : Hid (BxA wag1 (W0.heap.size) 46 (mbox m false (.slice za0 zn0 zc0) (.slice za1 zn1 zc1) (.slice za2 zn2 zc2) (.slice za3 zn3 zc3) (.slice za4 zn4 zc4) (.slice za5 zn5 zc5) (.slice za6 zn6 zc6) (.slice (some ⟨bbf, offf, none⟩) zn7 zc7))) := X0_g1.out.kt (KT.of_below ba) (by decide)
              have XA1_g1 : Hid (BxA wag1 (gB) 77 #[.int .i64 yf.s, .int .i64 yf.b, .slice ga0 gn0 gc0, .slice ga1 gn1 gc1]) := by apply hide; simpa using (X1_g1.out).kt (KT.of_below ba) (by decide)
              have SNg1 : Hid (sag1 = none → (ei (yf.b)).length = 0 ∧ scg1 = 0) := sn
              have SRg1 : Hid _ := sr
              clear oa ba sn sr
              go_wp2_with (first | (at_builtin; refine wp_app rfl _ _ rfl W0.heap.size _ Lg1 (ei (yf.b)) rfl HBg1.out.o _ _ _ rfl rfl SNg1.out SRg1.out LBg1.out HBg1.out.b.size ?_; intro vg2 wg2 o g; obtain ⟨B, kt⟩ := HBg1.out.app o g; obtain ⟨Lg2, hL⟩ : ∃ L, L = Lg1 ++ (ei (yf.b)) := ⟨_, rfl⟩; rw [← hL] at B; have HLg2 : Hid (Lg2 = Lg1 ++ (ei (yf.b))) := hL; clear hL; have Hg2 : Hid (Bf W0 wg2 vg2 Lg2) := B; have Kg2 : Hid (KT W0 wg2) := KAg1.out.trans kt; have X0_g2 : Hid (BxA wg2 (W0.heap.size) 46 (mbox m false (.slice za0 zn0 zc0) (.slice za1 zn1 zc1) (.slice za2 zn2 zc2) (.slice za3 zn3 zc3) (.slice za4 zn4 zc4) (.slice za5 zn5 zc5) (.slice za6 zn6 zc6) (.slice (some ⟨bbf, offf, none⟩) zn7 zc7))) := XA0_g1.out.kt kt (by decide); have X1_g2 : Hid (BxA wg2 (gB) 77 #[.int .i64 yf.s, .int .i64 yf.b, .slice ga0 gn0 gc0, .slice ga1 gn1 gc1]) := XA1_g1.out.kt kt (by decide); clear o g B kt; have q0_40 : wg2.cell? ⟨W0.heap.size, 40, none⟩ = some (.slice (some ⟨bbf, offf, none⟩) zn7 zc7) := X0_g2.out.cell 40 _ rfl; have q1_0 : wg2.cell? ⟨gB, 0, none⟩ = some (.int .i64 yf.s) := X1_g2.out.cell 0 _ rfl; have q1_1 : wg2.cell? ⟨gB, 1, none⟩ = some (.int .i64 yf.b) := X1_g2.out.cell 1 _ rfl; have q1_2 : wg2.cell? ⟨gB, 2, none⟩ = some (.slice ga0 gn0 gc0) := X1_g2.out.cell 2 _ rfl; have q1_3 : wg2.cell? ⟨gB, 3, none⟩ = some (.slice ga1 gn1 gc1) := X1_g2.out.cell 3 _ rfl; have rf0 : wg2.cell? ⟨bbf, offf + i * 4, none⟩ = some (.int .i64 yf.s) := cup Hg2.out.b Ef0.out; have rf1 : wg2.cell? ⟨bbf, offf + i * 4 + 1, none⟩ = some (.int .i64 yf.b) := cup Hg2.out.b Ef1.out; have rf2 : wg2.cell? ⟨bbf, offf + i * 4 + 2, none⟩ = some (.slice ga0 gn0 gc0) := cup Hg2.out.b Ef2.out; have rf3 : wg2.cell? ⟨bbf, offf + i * 4 + 3, none⟩ = some (.slice ga1 gn1 gc1) := cup Hg2.out.b Ef3.out))
              clear q0_40 q1_0 q1_1 q1_2 q1_3 rf0 rf1 rf2 rf3
              clear LBg1 HBg1 KAg1 SNg1 SRg1 XA0_g1 XA1_g1 Hg1 Kg1 X0_g1 X1_g1
              have LBg2 : Hid (Lg2.length + (r_txt yf.ds).length ≤ 1099511627776) := (by have e := HTf.out; simp only [r_grp, List.length_append] at e; simp only [← HLNP.out] at e; have e0 := congrArg List.length HLg1.out; simp only [List.length_append] at e0; have e1 := congrArg List.length HLg2.out; simp only [List.length_append] at e1; apply hide; omega)
              refine (rtxt W0 wg2 vg2 Lg2 _ yf.ds HGR.out HGO.out.t Hg2.out LBg2.out).mono ?_
              rintro e wg3 ⟨vg3, rfl, B, kt⟩
              obtain ⟨Lg3, hL⟩ : ∃ L, L = Lg2 ++ (r_txt yf.ds) := ⟨_, rfl⟩
              rw [← hL] at B
              have HLg3 : Hid (Lg3 = Lg2 ++ (r_txt yf.ds)) := hL
              clear hL
              have Hg3 : Hid (Bf W0 wg3 vg3 Lg3) := B
              have Kg3 : Hid (KT W0 wg3) := (Kg2.out).trans kt
              have X0_g3 : Hid (BxA wg3 (W0.heap.size) 46 (mbox m false (.slice za0 zn0 zc0) (.slice za1 zn1 zc1) (.slice za2 zn2 zc2) (.slice za3 zn3 zc3) (.slice za4 zn4 zc4) (.slice za5 zn5 zc5) (.slice za6 zn6 zc6) (.slice (some ⟨bbf, offf, none⟩) zn7 zc7))) := X0_g2.out.kt (kt) (by decide)
              have X1_g3 : Hid (BxA wg3 (gB) 77 #[.int .i64 yf.s, .int .i64 yf.b, .slice ga0 gn0 gc0, .slice ga1 gn1 gc1]) := by apply hide; simpa using (X1_g2.out).kt (kt) (by decide)
              clear B kt
              have q0_40 : wg3.cell? ⟨W0.heap.size, 40, none⟩ = some (.slice (some ⟨bbf, offf, none⟩) zn7 zc7) := X0_g3.out.cell 40 _ rfl
              have q1_0 : wg3.cell? ⟨gB, 0, none⟩ = some (.int .i64 yf.s) := X1_g3.out.cell 0 _ rfl
              have q1_1 : wg3.cell? ⟨gB, 1, none⟩ = some (.int .i64 yf.b) := X1_g3.out.cell 1 _ rfl
              have q1_2 : wg3.cell? ⟨gB, 2, none⟩ = some (.slice ga0 gn0 gc0) := X1_g3.out.cell 2 _ rfl
              have q1_3 : wg3.cell? ⟨gB, 3, none⟩ = some (.slice ga1 gn1 gc1) := X1_g3.out.cell 3 _ rfl
              have rf0 : wg3.cell? ⟨bbf, offf + i * 4, none⟩ = some (.int .i64 yf.s) := cup Hg3.out.b Ef0.out
              have rf1 : wg3.cell? ⟨bbf, offf + i * 4 + 1, none⟩ = some (.int .i64 yf.b) := cup Hg3.out.b Ef1.out
              have rf2 : wg3.cell? ⟨bbf, offf + i * 4 + 2, none⟩ = some (.slice ga0 gn0 gc0) := cup Hg3.out.b Ef2.out
              have rf3 : wg3.cell? ⟨bbf, offf + i * 4 + 3, none⟩ = some (.slice ga1 gn1 gc1) := cup Hg3.out.b Ef3.out
              go_wp2_with fail
              clear q0_40 q1_0 q1_1 q1_2 q1_3 rf0 rf1 rf2 rf3
              clear LBg2 Hg2 Kg2 X0_g2 X1_g2
              have LBg3 : Hid (Lg3.length + (Num.uv (gn1)).length ≤ 140737488355328) := (by have e := HTf.out; simp only [r_grp, List.length_append] at e; simp only [← HLNP.out] at e; have e0 := congrArg List.length HLg1.out; simp only [List.length_append] at e0; have e1 := congrArg List.length HLg2.out; simp only [List.length_append] at e1; have e2 := congrArg List.length HLg3.out; simp only [List.length_append] at e2; apply hide; omega)
              refine (refuint_any wg3 (gn1) hug).mono ?_
              rintro e wag3 ⟨vag3, rfl, oa, ba⟩
              change Owns wag3 _ vag3 (Num.uv (gn1)) at oa
              obtain ⟨sag3, scg3, rfl, sn, sr⟩ := own_src oa
              have HBg3 : Hid (Bf W0 wag3 vg3 Lg3) := Bf.up Hg3.out ba
              have KAg3 : Hid (KT W0 wag3) := (Kg3.out).trans (KT.of_below ba)
              have XA0_g3 : Hid (BxA wag3 (W0.heap.size) 46 (mbox m false (.slice za0 zn0 zc0) (.slice za1 zn1 zc1) (.slice za2 zn2 zc2) (.slice za3 zn3 zc3) (.slice za4 zn4 zc4) (.slice za5 zn5 zc5) (.slice za6 zn6 zc6) (.slice (some ⟨bbf, offf, none⟩) zn7 zc7))) := X0_g3.out.kt (KT.of_below ba) (by decide)
              have XA1_g3 : Hid (BxA wag3 (gB) 77 #[.int .i64 yf.s, .int .i64 yf.b, .slice ga0 gn0 gc0, .slice ga1 gn1 gc1]) := by apply hide; simpa using (X1_g3.out).kt (KT.of_below ba) (by decide)
              have SNg3 : Hid (sag3 = none → (Num.uv (gn1)).length = 0 ∧ scg3 = 0) := sn
              have SRg3 : Hid _ := sr
              clear oa ba sn sr
              go_wp2_with (first | (at_builtin; refine wp_app rfl _ _ rfl W0.heap.size _ Lg3 (Num.uv (gn1)) rfl HBg3.out.o _ _ _ rfl rfl SNg3.out SRg3.out LBg3.out HBg3.out.b.size ?_; intro vg4 wg4 o g; obtain ⟨B, kt⟩ := HBg3.out.app o g; obtain ⟨Lg4, hL⟩ : ∃ L, L = Lg3 ++ (Num.uv (gn1)) := ⟨_, rfl⟩; rw [← hL] at B; have HLg4 : Hid (Lg4 = Lg3 ++ (Num.uv (gn1))) := hL; clear hL; have Hg4 : Hid (Bf W0 wg4 vg4 Lg4) := B; have Kg4 : Hid (KT W0 wg4) := KAg3.out.trans kt; have X0_g4 : Hid (BxA wg4 (W0.heap.size) 46 (mbox m false (.slice za0 zn0 zc0) (.slice za1 zn1 zc1) (.slice za2 zn2 zc2) (.slice za3 zn3 zc3) (.slice za4 zn4 zc4) (.slice za5 zn5 zc5) (.slice za6 zn6 zc6) (.slice (some ⟨bbf, offf, none⟩) zn7 zc7))) := XA0_g3.out.kt kt (by decide); have X1_g4 : Hid (BxA wg4 (gB) 77 #[.int .i64 yf.s, .int .i64 yf.b, .slice ga0 gn0 gc0, .slice ga1 gn1 gc1]) := XA1_g3.out.kt kt (by decide); clear o g B kt))
              clear LBg3 HBg3 KAg3 SNg3 SRg3 XA0_g3 XA1_g3 Hg3 Kg3 X0_g3 X1_g3
              go_loopg [4, 9] gn1 (fun kx vb vi wr => ∃ (k : Nat) (x : Value), vi = .int .i64 (k : Int) ∧ x = vb ∧ k ≤ gn1 ∧ gn1 - k ≤ kx ∧ Hid (Bf W0 wr x (Lg4 ++ (yf.ps.take k).flatMap r_prt)) ∧ Hid (KT W0 wr) ∧ Hid (BxA wr (W0.heap.size) 46 (mbox m false (.slice za0 zn0 zc0) (.slice za1 zn1 zc1) (.slice za2 zn2 zc2) (.slice za3 zn3 zc3) (.slice za4 zn4 zc4) (.slice za5 zn5 zc5) (.slice za6 zn6 zc6) (.slice (some ⟨bbf, offf, none⟩) zn7 zc7))) ∧ Hid (BxA wr (gB) 77 #[.int .i64 yf.s, .int .i64 yf.b, .slice ga0 gn0 gc0, .slice ga1 gn1 gc1]))
              case atStart => exact ⟨0, _, rfl, rfl, by omega, Nat.le_refl _, by apply hide; simpa using Hg4.out, Kg4.out, X0_g4.out, X1_g4.out⟩
              case round =>
                obtain ⟨k, vrh, rfl, rfl, hih, hkxh, HRh, KRh, XR0h, XR1h⟩ := hrel
                have q0_40 : wr.cell? ⟨W0.heap.size, 40, none⟩ = some (.slice (some ⟨bbf, offf, none⟩) zn7 zc7) := XR0h.out.cell 40 _ rfl
                have q1_0 : wr.cell? ⟨gB, 0, none⟩ = some (.int .i64 yf.s) := XR1h.out.cell 0 _ rfl
                have q1_1 : wr.cell? ⟨gB, 1, none⟩ = some (.int .i64 yf.b) := XR1h.out.cell 1 _ rfl
                have q1_2 : wr.cell? ⟨gB, 2, none⟩ = some (.slice ga0 gn0 gc0) := XR1h.out.cell 2 _ rfl
                have q1_3 : wr.cell? ⟨gB, 3, none⟩ = some (.slice ga1 gn1 gc1) := XR1h.out.cell 3 _ rfl
                have rf0 : wr.cell? ⟨bbf, offf + i * 4, none⟩ = some (.int .i64 yf.s) := cup HRh.out.b Ef0.out
                have rf1 : wr.cell? ⟨bbf, offf + i * 4 + 1, none⟩ = some (.int .i64 yf.b) := cup HRh.out.b Ef1.out
                have rf2 : wr.cell? ⟨bbf, offf + i * 4 + 2, none⟩ = some (.slice ga0 gn0 gc0) := cup HRh.out.b Ef2.out
                have rf3 : wr.cell? ⟨bbf, offf + i * 4 + 3, none⟩ = some (.slice ga1 gn1 gc1) := cup HRh.out.b Ef3.out
                by_cases hlth : k < gn1
                · have hltz : (k : Int) < (gn1 : Int) := by omega
                  have hilh : k < yf.ps.length := by have := HLNP.out; omega
                  obtain ⟨bbh, offh, rfl, hblh, hch⟩ := lst_cell (k := 3) (f := cl_prt) (by decide) (fun _ => rfl) HLSP.out (by omega)
                  obtain ⟨Lrh, hLrh⟩ : ∃ L, L = Lg4 ++ (yf.ps.take k).flatMap r_prt := ⟨_, rfl⟩
                  have HLrh : Hid (Lrh = Lg4 ++ (yf.ps.take k).flatMap r_prt) := hLrh
                  have HRRh : Hid (Bf W0 wr vrh Lrh) := by apply hide; rw [hLrh]; exact HRh.out
                  have hlen := rl_len r_prt yf.ps k hilh
                  have htk := rl_take r_prt yf.ps k hilh
                  obtain ⟨yh, hy⟩ : ∃ y, yf.ps[k] = y := ⟨_, rfl⟩
                  have hymh : yh ∈ yf.ps := by rw [← hy]; exact List.getElem_mem hilh
                  have Eh0 : Hid (W0.cell? ⟨bbh, offh + k * 3, none⟩ = some (.int .u64 (yh.n : Nat))) := by apply hide; have := hch k hilh 0 (.int .u64 (yh.n : Nat)) (by omega) (by rw [hy]; rfl); simpa [Nat.add_assoc] using this
                  have Eh1 : Hid (W0.cell? ⟨bbh, offh + k * 3 + 1, none⟩ = some (.int .i64 yh.v)) := by apply hide; have := hch k hilh 1 (.int .i64 yh.v) (by omega) (by rw [hy]; rfl); simpa [Nat.add_assoc] using this
                  have Eh2 : Hid (W0.cell? ⟨bbh, offh + k * 3 + 2, none⟩ = some (yh.tv)) := by apply hide; have := hch k hilh 2 (yh.tv) (by omega) (by rw [hy]; rfl); simpa [Nat.add_assoc] using this
                  rw [hy] at hlen htk
                  have HTKh : Hid _ := htk
                  have HTh : Hid (Lrh.length + (r_prt yh).length ≤ 1099511627776) := by apply hide; have e := HTf.out; simp only [r_grp, List.length_append, ← HLNP.out] at e; have e0 := congrArg List.length HLg1.out; simp only [List.length_append] at e0; have e1 := congrArg List.length HLg2.out; simp only [List.length_append] at e1; have e2 := congrArg List.length HLg3.out; simp only [List.length_append] at e2; have e3 := congrArg List.length HLg4.out; simp only [List.length_append] at e3; rw [hLrh, List.length_append]; omega
                  clear hlen htk hch hLrh hy
                  have pok := HGO.out.o yh hymh
                  obtain ⟨pa0, pc0, pe0, -, -⟩ := pok.r.sl
                  have pRr := pok.r
                  obtain ⟨pn0, hpn0⟩ : ∃ n, n = yh.ts.length := ⟨_, rfl⟩
                  rw [← hpn0] at pe0
                  rw [pe0] at pRr Eh2
                  have HPR : Hid (Lst 1 cl_str W0 (.slice pa0 pn0 pc0) yh.ts) := pRr
                  have HPO : Aside (yh.Ok W0) := pok
                  clear pok pe0 pRr hpn0
                  have rh0 : wr.cell? ⟨bbh, offh + k * 3, none⟩ = some (.int .u64 (yh.n : Nat)) := cup HRRh.out.b Eh0.out
                  have rh1 : wr.cell? ⟨bbh, offh + k * 3 + 1, none⟩ = some (.int .i64 yh.v) := cup HRRh.out.b Eh1.out
                  have rh2 : wr.cell? ⟨bbh, offh + k * 3 + 2, none⟩ = some (.slice pa0 pn0 pc0) := cup HRRh.out.b Eh2.out
                  go_wp2_with fail
                  clear q0_40 q1_0 q1_1 q1_2 q1_3 rf0 rf1 rf2 rf3 rh0 rh1 rh2
                  have LBh0 : Hid (Lrh.length + (Num.uv (yh.n)).length ≤ 140737488355328) := (by have e := HTh.out; simp only [r_prt, List.length_append] at e; apply hide; omega)
                  refine (refuint_any wr (yh.n) HPO.out.n).mono ?_
                  rintro e wah0 ⟨vah0, rfl, oa, ba⟩
                  change Owns wah0 _ vah0 (Num.uv (yh.n)) at oa
                  obtain ⟨sah0, sch0, rfl, sn, sr⟩ := own_src oa
                  have HBh0 : Hid (Bf W0 wah0 vrh Lrh) := Bf.up HRRh.out ba
                  have KAh0 : Hid (KT W0 wah0) := (KRh.out).trans (KT.of_below ba)
                  have XA0_h0 : Hid (BxA wah0 (W0.heap.size) 46 (mbox m false (.slice za0 zn0 zc0) (.slice za1 zn1 zc1) (.slice za2 zn2 zc2) (.slice za3 zn3 zc3) (.slice za4 zn4 zc4) (.slice za5 zn5 zc5) (.slice za6 zn6 zc6) (.slice (some ⟨bbf, offf, none⟩) zn7 zc7))) := XR0h.out.kt (KT.of_below ba) (by decide)
                  have XA1_h0 : Hid (BxA wah0 (gB) 77 #[.int .i64 yf.s, .int .i64 yf.b, .slice ga0 gn0 gc0, .slice (some ⟨bbh, offh, none⟩) gn1 gc1]) := by apply hide; simpa using (XR1h.out).kt (KT.of_below ba) (by decide)
                  have SNh0 : Hid (sah0 = none → (Num.uv (yh.n)).length = 0 ∧ sch0 = 0) := sn
                  have SRh0 : Hid _ := sr
                  clear oa ba sn sr
                  go_wp2_with (first | (at_builtin; refine wp_app rfl _ _ rfl W0.heap.size _ Lrh (Num.uv (yh.n)) rfl HBh0.out.o _ _ _ rfl rfl SNh0.out SRh0.out LBh0.out HBh0.out.b.size ?_; intro vh1 wh1 o g; obtain ⟨B, kt⟩ := HBh0.out.app o g; obtain ⟨Lh1, hL⟩ : ∃ L, L = Lrh ++ (Num.uv (yh.n)) := ⟨_, rfl⟩; rw [← hL] at B; have HLh1 : Hid (Lh1 = Lrh ++ (Num.uv (yh.n))) := hL; clear hL; have Hh1 : Hid (Bf W0 wh1 vh1 Lh1) := B; have Kh1 : Hid (KT W0 wh1) := KAh0.out.trans kt; have X0_h1 : Hid (BxA wh1 (W0.heap.size) 46 (mbox m false (.slice za0 zn0 zc0) (.slice za1 zn1 zc1) (.slice za2 zn2 zc2) (.slice za3 zn3 zc3) (.slice za4 zn4 zc4) (.slice za5 zn5 zc5) (.slice za6 zn6 zc6) (.slice (some ⟨bbf, offf, none⟩) zn7 zc7))) := XA0_h0.out.kt kt (by decide); have X1_h1 : Hid (BxA wh1 (gB) 77 #[.int .i64 yf.s, .int .i64 yf.b, .slice ga0 gn0 gc0, .slice (some ⟨bbh, offh, none⟩) gn1 gc1]) := XA1_h0.out.kt kt (by decide); clear o g B kt; have q0_40 : wh1.cell? ⟨W0.heap.size, 40, none⟩ = some (.slice (some ⟨bbf, offf, none⟩) zn7 zc7) := X0_h1.out.cell 40 _ rfl; have q1_0 : wh1.cell? ⟨gB, 0, none⟩ = some (.int .i64 yf.s) := X1_h1.out.cell 0 _ rfl; have q1_1 : wh1.cell? ⟨gB, 1, none⟩ = some (.int .i64 yf.b) := X1_h1.out.cell 1 _ rfl; have q1_2 : wh1.cell? ⟨gB, 2, none⟩ = some (.slice ga0 gn0 gc0) := X1_h1.out.cell 2 _ rfl; have q1_3 : wh1.cell? ⟨gB, 3, none⟩ = some (.slice (some ⟨bbh, offh, none⟩) gn1 gc1) := X1_h1.out.cell 3 _ rfl; have rf0 : wh1.cell? ⟨bbf, offf + i * 4, none⟩ = some (.int .i64 yf.s) := cup Hh1.out.b Ef0.out; have rf1 : wh1.cell? ⟨bbf, offf + i * 4 + 1, none⟩ = some (.int .i64 yf.b) := cup Hh1.out.b Ef1.out; have rf2 : wh1.cell? ⟨bbf, offf + i * 4 + 2, none⟩ = some (.slice ga0 gn0 gc0) := cup Hh1.out.b Ef2.out; have rf3 : wh1.cell? ⟨bbf, offf + i * 4 + 3, none⟩ = some (.slice (some ⟨bbh, offh, none⟩) gn1 gc1) := cup Hh1.out.b Ef3.out; have rh0 : wh1.cell? ⟨bbh, offh + k * 3, none⟩ = some (.int .u64 (yh.n : Nat)) := cup Hh1.out.b Eh0.out; have rh1 : wh1.cell? ⟨bbh, offh + k * 3 + 1, none⟩ = some (.int .i64 yh.v) := cup Hh1.out.b Eh1.out; have rh2 : wh1.cell? ⟨bbh, offh + k * 3 + 2, none⟩ = some (.slice pa0 pn0 pc0) := cup Hh1.out.b Eh2.out))
                  clear q0_40 q1_0 q1_1 q1_2 q1_3 rf0 rf1 rf2 rf3 rh0 rh1 rh2
                  clear LBh0 HBh0 KAh0 SNh0 SRh0 XA0_h0 XA1_h0
                  have LBh1 : Hid (Lh1.length + (ei (yh.v)).length ≤ 140737488355328) := (by have e := HTh.out; simp only [r_prt, List.length_append] at e; have e0 := congrArg List.length HLh1.out; simp only [List.length_append] at e0; apply hide; omega)
                  refine (refint_any wh1 (yh.v) HPO.out.v.1 HPO.out.v.2).mono ?_
                  rintro e wah1 ⟨vah1, rfl, oa, ba⟩
                  change Owns wah1 _ vah1 (ei (yh.v)) at oa
                  obtain ⟨sah1, sch1, rfl, sn, sr⟩ := own_src oa
                  have HBh1 : Hid (Bf W0 wah1 vh1 Lh1) := Bf.up Hh1.out ba
                  have KAh1 : Hid (KT W0 wah1) := (Kh1.out).trans (KT.of_below ba)
                  have XA0_h1 : Hid (BxA wah1 (W0.heap.size) 46 (mbox m false (.slice za0 zn0 zc0) (.slice za1 zn1 zc1) (.slice za2 zn2 zc2) (.slice za3 zn3 zc3) (.slice za4 zn4 zc4) (.slice za5 zn5 zc5) (.slice za6 zn6 zc6) (.slice (some ⟨bbf, offf, none⟩) zn7 zc7))) := X0_h1.out.kt (KT.of_below ba) (by decide)
                  have XA1_h1 : Hid (BxA wah1 (gB) 77 #[.int .i64 yf.s, .int .i64 yf.b, .slice ga0 gn0 gc0, .slice (some ⟨bbh, offh, none⟩) gn1 gc1]) := by apply hide; simpa using (X1_h1.out).kt (KT.of_below ba) (by decide)
                  have SNh1 : Hid (sah1 = none → (ei (yh.v)).length = 0 ∧ sch1 = 0) := sn
                  have SRh1 : Hid _ := sr
                  clear oa ba sn sr
                  go_wp2_with (first | (at_builtin; refine wp_app rfl _ _ rfl W0.heap.size _ Lh1 (ei (yh.v)) rfl HBh1.out.o _ _ _ rfl rfl SNh1.out SRh1.out LBh1.out HBh1.out.b.size ?_; intro vh2 wh2 o g; obtain ⟨B, kt⟩ := HBh1.out.app o g; obtain ⟨Lh2, hL⟩ : ∃ L, L = Lh1 ++ (ei (yh.v)) := ⟨_, rfl⟩; rw [← hL] at B; have HLh2 : Hid (Lh2 = Lh1 ++ (ei (yh.v))) := hL; clear hL; have Hh2 : Hid (Bf W0 wh2 vh2 Lh2) := B; have Kh2 : Hid (KT W0 wh2) := KAh1.out.trans kt; have X0_h2 : Hid (BxA wh2 (W0.heap.size) 46 (mbox m false (.slice za0 zn0 zc0) (.slice za1 zn1 zc1) (.slice za2 zn2 zc2) (.slice za3 zn3 zc3) (.slice za4 zn4 zc4) (.slice za5 zn5 zc5) (.slice za6 zn6 zc6) (.slice (some ⟨bbf, offf, none⟩) zn7 zc7))) := XA0_h1.out.kt kt (by decide); have X1_h2 : Hid (BxA wh2 (gB) 77 #[.int .i64 yf.s, .int .i64 yf.b, .slice ga0 gn0 gc0, .slice (some ⟨bbh, offh, none⟩) gn1 gc1]) := XA1_h1.out.kt kt (by decide); clear o g B kt; have q0_40 : wh2.cell? ⟨W0.heap.size, 40, none⟩ = some (.slice (some ⟨bbf, offf, none⟩) zn7 zc7) := X0_h2.out.cell 40 _ rfl; have q1_0 : wh2.cell? ⟨gB, 0, none⟩ = some (.int .i64 yf.s) := X1_h2.out.cell 0 _ rfl; have q1_1 : wh2.cell? ⟨gB, 1, none⟩ = some (.int .i64 yf.b) := X1_h2.out.cell 1 _ rfl; have q1_2 : wh2.cell? ⟨gB, 2, none⟩ = some (.slice ga0 gn0 gc0) := X1_h2.out.cell 2 _ rfl; have q1_3 : wh2.cell? ⟨gB, 3, none⟩ = some (.slice (some ⟨bbh, offh, none⟩) gn1 gc1) := X1_h2.out.cell 3 _ rfl; have rf0 : wh2.cell? ⟨bbf, offf + i * 4, none⟩ = some (.int .i64 yf.s) := cup Hh2.out.b Ef0.out; have rf1 : wh2.cell? ⟨bbf, offf + i * 4 + 1, none⟩ = some (.int .i64 yf.b) := cup Hh2.out.b Ef1.out; have rf2 : wh2.cell? ⟨bbf, offf + i * 4 + 2, none⟩ = some (.slice ga0 gn0 gc0) := cup Hh2.out.b Ef2.out; have rf3 : wh2.cell? ⟨bbf, offf + i * 4 + 3, none⟩ = some (.slice (some ⟨bbh, offh, none⟩) gn1 gc1) := cup Hh2.out.b Ef3.out; have rh0 : wh2.cell? ⟨bbh, offh + k * 3, none⟩ = some (.int .u64 (yh.n : Nat)) := cup Hh2.out.b Eh0.out; have rh1 : wh2.cell? ⟨bbh, offh + k * 3 + 1, none⟩ = some (.int .i64 yh.v) := cup Hh2.out.b Eh1.out; have rh2 : wh2.cell? ⟨bbh, offh + k * 3 + 2, none⟩ = some (.slice pa0 pn0 pc0) := cup Hh2.out.b Eh2.out))
                  clear q0_40 q1_0 q1_1 q1_2 q1_3 rf0 rf1 rf2 rf3 rh0 rh1 rh2
                  clear LBh1 HBh1 KAh1 SNh1 SRh1 XA0_h1 XA1_h1 Hh1 Kh1 X0_h1 X1_h1
                  have LBh2 : Hid (Lh2.length + (r_txt yh.ts).length ≤ 1099511627776) := (by have e := HTh.out; simp only [r_prt, List.length_append] at e; have e0 := congrArg List.length HLh1.out; simp only [List.length_append] at e0; have e1 := congrArg List.length HLh2.out; simp only [List.length_append] at e1; apply hide; omega)
                  refine (rtxt W0 wh2 vh2 Lh2 _ yh.ts HPR.out HPO.out.t Hh2.out LBh2.out).mono ?_
                  rintro e wh3 ⟨vh3, rfl, B, kt⟩
                  obtain ⟨Lh3, hL⟩ : ∃ L, L = Lh2 ++ (r_txt yh.ts) := ⟨_, rfl⟩
                  rw [← hL] at B
                  have HLh3 : Hid (Lh3 = Lh2 ++ (r_txt yh.ts)) := hL
                  clear hL
                  have Hh3 : Hid (Bf W0 wh3 vh3 Lh3) := B
                  have Kh3 : Hid (KT W0 wh3) := (Kh2.out).trans kt
                  have X0_h3 : Hid (BxA wh3 (W0.heap.size) 46 (mbox m false (.slice za0 zn0 zc0) (.slice za1 zn1 zc1) (.slice za2 zn2 zc2) (.slice za3 zn3 zc3) (.slice za4 zn4 zc4) (.slice za5 zn5 zc5) (.slice za6 zn6 zc6) (.slice (some ⟨bbf, offf, none⟩) zn7 zc7))) := X0_h2.out.kt (kt) (by decide)
                  have X1_h3 : Hid (BxA wh3 (gB) 77 #[.int .i64 yf.s, .int .i64 yf.b, .slice ga0 gn0 gc0, .slice (some ⟨bbh, offh, none⟩) gn1 gc1]) := by apply hide; simpa using (X1_h2.out).kt (kt) (by decide)
                  clear B kt
                  have q0_40 : wh3.cell? ⟨W0.heap.size, 40, none⟩ = some (.slice (some ⟨bbf, offf, none⟩) zn7 zc7) := X0_h3.out.cell 40 _ rfl
                  have q1_0 : wh3.cell? ⟨gB, 0, none⟩ = some (.int .i64 yf.s) := X1_h3.out.cell 0 _ rfl
                  have q1_1 : wh3.cell? ⟨gB, 1, none⟩ = some (.int .i64 yf.b) := X1_h3.out.cell 1 _ rfl
                  have q1_2 : wh3.cell? ⟨gB, 2, none⟩ = some (.slice ga0 gn0 gc0) := X1_h3.out.cell 2 _ rfl
                  have q1_3 : wh3.cell? ⟨gB, 3, none⟩ = some (.slice (some ⟨bbh, offh, none⟩) gn1 gc1) := X1_h3.out.cell 3 _ rfl
                  have rf0 : wh3.cell? ⟨bbf, offf + i * 4, none⟩ = some (.int .i64 yf.s) := cup Hh3.out.b Ef0.out
                  have rf1 : wh3.cell? ⟨bbf, offf + i * 4 + 1, none⟩ = some (.int .i64 yf.b) := cup Hh3.out.b Ef1.out
                  have rf2 : wh3.cell? ⟨bbf, offf + i * 4 + 2, none⟩ = some (.slice ga0 gn0 gc0) := cup Hh3.out.b Ef2.out
                  have rf3 : wh3.cell? ⟨bbf, offf + i * 4 + 3, none⟩ = some (.slice (some ⟨bbh, offh, none⟩) gn1 gc1) := cup Hh3.out.b Ef3.out
                  have rh0 : wh3.cell? ⟨bbh, offh + k * 3, none⟩ = some (.int .u64 (yh.n : Nat)) := cup Hh3.out.b Eh0.out
                  have rh1 : wh3.cell? ⟨bbh, offh + k * 3 + 1, none⟩ = some (.int .i64 yh.v) := cup Hh3.out.b Eh1.out
                  have rh2 : wh3.cell? ⟨bbh, offh + k * 3 + 2, none⟩ = some (.slice pa0 pn0 pc0) := cup Hh3.out.b Eh2.out
                  go_wp2_with fail
                  clear q0_40 q1_0 q1_1 q1_2 q1_3 rf0 rf1 rf2 rf3 rh0 rh1 rh2
                  clear LBh2 Hh2 Kh2 X0_h2 X1_h2
                  go_roundg (gn1 - (k + 1))
                  case measure => omega
                  case rel => exact ⟨k + 1, _, by go_num, rfl, by omega, Nat.le_refl _, by apply hide; rw [HTKh.out, ← List.append_assoc, ← HLrh.out]; have e : Lh3 = Lrh ++ r_prt yh := (by rw [HLh3.out, HLh2.out, HLh1.out]; simp only [r_prt, List.append_assoc]); rw [← e]; exact Hh3.out, Kh3.out, X0_h3.out, X1_h3.out⟩
                · have hltz : ¬ (k : Int) < (gn1 : Int) := by omega
                  obtain ⟨LXh, hLX⟩ : ∃ L, L = Lg4 ++ yf.ps.flatMap r_prt := ⟨_, rfl⟩
                  have HLXh : Hid (LXh = Lg4 ++ yf.ps.flatMap r_prt) := hLX
                  have HRXh : Hid (Bf W0 wr vrh LXh) := by apply hide; rw [hLX]; have e := HRh.out; rwa [List.take_of_length_le (by have := HLNP.out; omega)] at e
                  clear hLX
                  go_wp2_with fail
                  clear q0_40 q1_0 q1_1 q1_2 q1_3 rf0 rf1 rf2 rf3
                  go_roundg (zn7 - (i + 1))
                  case measure => omega
                  case rel => exact ⟨i + 1, _, by go_num, rfl, by omega, Nat.le_refl _, by apply hide; rw [HTKf.out, ← List.append_assoc, ← HLrf.out]; have e : LXh = Lrf ++ r_grp yf := (by rw [HLXh.out, HLg4.out, HLg3.out, HLg2.out, HLg1.out]; simp only [r_grp, List.append_assoc, ← HLNP.out]); rw [← e]; exact HRXh.out, KRh.out, XR0h.out⟩
            · have hltz : ¬ (i : Int) < (zn7 : Int) := by omega
              obtain ⟨LXf, hLX⟩ : ∃ L, L = Le1 ++ m.gp.flatMap r_grp := ⟨_, rfl⟩
              have HLXf : Hid (LXf = Le1 ++ m.gp.flatMap r_grp) := hLX
              have HRXf : Hid (Bf W0 wr vrf LXf) := by apply hide; rw [hLX]; have e := HRf.out; rwa [List.take_of_length_le (by have := HLN7.out; omega)] at e
              clear hLX
              have BDXf : Hid (LXf.length ≤ 8589934733) := (by have e := BDe1.out; have f := PR.out; have g := congrArg List.length HLXf.out; rw [List.length_append] at g; apply hide; omega)
              have HFIN : Hid (LXf = r_msg m) := by apply hide; rw [HLXf.out, HLe1.out, HLXd.out, HLc7.out, HLc6.out, HLc5.out, HLc4.out, HLc3.out, HLc2.out, HLc1.out, HLXb.out, HLa12.out, HLa11.out, HLa10.out, HLa9.out, HLa8.out, HLa7.out, HLa6.out, HLa5.out, HLa4.out, HLa3.out, HLa2.out, HLa1.out]; simp only [r_msg, HEB.out, List.append_assoc, List.nil_append, ← HLN1.out, ← HLN6.out, ← HLN7.out]
              obtain ⟨F, hF⟩ : ∃ F, F = (r_msg m).length := ⟨_, rfl⟩
              have hFb : F ≤ 1073741824 := by rw [hF]; exact HNN.out
              have HFF : Hid (F = (r_msg m).length) := hF
              have HRF : Hid (Bf W0 wr vrf (r_msg m)) := by apply hide; rw [← HFIN.out]; exact HRXf.out
              obtain ⟨fa, fc, hfs⟩ := HRF.out.o.shape F hF.symm
              subst hfs
              clear hF
              by_cases hbig : (1048576 : Int) < (F : Int)
              · go_wp2_with fail
                go_ret2
                refine ⟨HRF.out.b, .inl ⟨?_, rfl⟩⟩
                unfold rres
                rw [if_neg HDN.out, if_neg (by have := HFF.out; omega)]
              · go_wp2_with fail
                go_ret2
                refine ⟨HRF.out.b, .inr ⟨r_msg m, _, ?_, rfl, HRF.out.o⟩⟩
                unfold rres
                rw [if_neg HDN.out, if_pos (by have := HFF.out; omega)]
theorem rput (w : World) (m : Mm) (hm : m.Ok w) (hN : (r_msg m).length ≤ 1073741824) :
    Calls Try.prog 10 #[.agg (List.toArray ((.int .i64 m.kind) :: (.int .i64 m.frm) :: (.int .i64 m.to) :: (.int .u64 (m.id : Nat)) :: (.int .u64 (m.ask : Nat)) :: (.int .u64 (m.off : Nat)) :: (.int .i64 m.term) :: (.int .u64 (m.cnt : Nat)) :: (.int .i64 m.code) :: (.int .i64 m.ft) :: (m.fdv) :: (m.fmv) :: (.int .i64 m.q.F) :: (.int .i64 m.q.T) :: (.int .i64 m.q.t.k) :: (.int .i64 m.q.t.d) :: (m.q.t.tv) :: (.int .i64 m.q.t.lo) :: (.int .i64 m.q.t.hi) :: (m.q.t.kv) :: (.int .i64 m.q.g) :: (m.q.sv) :: (m.q.av) :: (.int .i64 m.q.G) :: (.int .i64 m.q.R) :: (.int .i64 m.ps.F) :: (.int .i64 m.ps.T) :: (.int .i64 m.ps.V) :: (.int .i64 m.ps.P) :: (.int .i64 m.ps.C) :: (.int .i64 m.pF) :: (.int .i64 m.pT) :: (.bool m.od) :: (.int .i64 m.os.F) :: (.int .i64 m.os.T) :: (.int .i64 m.os.V) :: (.int .i64 m.os.P) :: (.int .i64 m.os.C) :: (.int .i64 m.on) :: (m.sv) :: (m.gv) :: []))] w (Puts w (rres m)) := by
  cases h : m.od
  · rw [← h]; exact rput_false w m hm h hN
  · rw [← h]; exact rput_true w m hm h hN
end Go.Proofs.Ytpdlioidiobbbaa
