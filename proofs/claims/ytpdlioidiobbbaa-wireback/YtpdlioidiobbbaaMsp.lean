/- The program's Put. -/
import Derived.Test.YtpdlioidiobbbaaMsg
import Derived.Deep.Cut
import Derived.Laws.Rows
namespace Go.Proofs.Ytpdlioidiobbbaa
open Go.RowKit

theorem msg_size : (Try.prog.info? 46).map (·.size) = some 41 := by kernel_rfl
set_option maxRecDepth 100000 in
set_option maxHeartbeats 6400000 in
theorem wput (w : World) (m : Mm) (hm0 : m.Ok w) :
    Calls Try.prog 9 #[.agg (List.toArray ((.int .i64 m.kind) :: (.int .i64 m.frm) :: (.int .i64 m.to) :: (.int .u64 (m.id : Nat)) :: (.int .u64 (m.ask : Nat)) :: (.int .u64 (m.off : Nat)) :: (.int .i64 m.term) :: (.int .u64 (m.cnt : Nat)) :: (.int .i64 m.code) :: (.int .i64 m.ft) :: (m.fdv) :: (m.fmv) :: (.int .i64 m.q.F) :: (.int .i64 m.q.T) :: (.int .i64 m.q.t.k) :: (.int .i64 m.q.t.d) :: (m.q.t.tv) :: (.int .i64 m.q.t.lo) :: (.int .i64 m.q.t.hi) :: (m.q.t.kv) :: (.int .i64 m.q.g) :: (m.q.sv) :: (m.q.av) :: (.int .i64 m.q.G) :: (.int .i64 m.q.R) :: (.int .i64 m.ps.F) :: (.int .i64 m.ps.T) :: (.int .i64 m.ps.V) :: (.int .i64 m.ps.P) :: (.int .i64 m.ps.C) :: (.int .i64 m.pF) :: (.int .i64 m.pT) :: (.bool m.od) :: (.int .i64 m.os.F) :: (.int .i64 m.os.T) :: (.int .i64 m.os.V) :: (.int .i64 m.os.P) :: (.int .i64 m.os.C) :: (.int .i64 m.on) :: (m.sv) :: (m.gv) :: []))] w (Puts w (put (some []) (e_msg m))) := by
  obtain ⟨za0, zn0, zc0, ze0⟩ := lst_sl hm0.fd
  obtain ⟨za1, zn1, zc1, ze1⟩ := lst_sl hm0.fm
  obtain ⟨za2, zn2, zc2, ze2⟩ := lst_sl (rds_lst hm0.q.t.rt)
  obtain ⟨za3, zn3, zc3, ze3⟩ := lst_sl (tr_lst hm0.q.t)
  obtain ⟨za4, zn4, zc4, ze4⟩ := lst_sl hm0.q.s
  obtain ⟨za5, zn5, zc5, ze5⟩ := lst_sl hm0.q.a
  obtain ⟨za6, zn6, zc6, ze6⟩ := lst_sl hm0.s
  obtain ⟨za7, zn7, zc7, ze7⟩ := lst_sl hm0.g
  obtain ⟨W0, hW0⟩ : ∃ W0, W0 = w.alloc (.cells (List.toArray ((.int .i64 m.kind) :: (.int .i64 m.frm) :: (.int .i64 m.to) :: (.int .u64 (m.id : Nat)) :: (.int .u64 (m.ask : Nat)) :: (.int .u64 (m.off : Nat)) :: (.int .i64 m.term) :: (.int .u64 (m.cnt : Nat)) :: (.int .i64 m.code) :: (.int .i64 m.ft) :: (.slice za0 zn0 zc0) :: (.slice za1 zn1 zc1) :: (.int .i64 m.q.F) :: (.int .i64 m.q.T) :: (.int .i64 m.q.t.k) :: (.int .i64 m.q.t.d) :: (.slice za2 zn2 zc2) :: (.int .i64 m.q.t.lo) :: (.int .i64 m.q.t.hi) :: (.slice za3 zn3 zc3) :: (.int .i64 m.q.g) :: (.slice za4 zn4 zc4) :: (.slice za5 zn5 zc5) :: (.int .i64 m.q.G) :: (.int .i64 m.q.R) :: (.int .i64 m.ps.F) :: (.int .i64 m.ps.T) :: (.int .i64 m.ps.V) :: (.int .i64 m.ps.P) :: (.int .i64 m.ps.C) :: (.int .i64 m.pF) :: (.int .i64 m.pT) :: (.bool m.od) :: (.int .i64 m.os.F) :: (.int .i64 m.os.T) :: (.int .i64 m.os.V) :: (.int .i64 m.os.P) :: (.int .i64 m.os.C) :: (.int .i64 m.on) :: (.slice za6 zn6 zc6) :: (.slice za7 zn7 zc7) :: [])) 46) := ⟨_, rfl⟩
  have b0 : Below w.heap.size w W0 := by rw [hW0]; exact (Fi.Grows.alloc _ _).below
  have z0 : W0.heap.size = w.heap.size + 1 := by rw [hW0]; simp
  have x0 : BxA W0 w.heap.size 46 (List.toArray ((.int .i64 m.kind) :: (.int .i64 m.frm) :: (.int .i64 m.to) :: (.int .u64 (m.id : Nat)) :: (.int .u64 (m.ask : Nat)) :: (.int .u64 (m.off : Nat)) :: (.int .i64 m.term) :: (.int .u64 (m.cnt : Nat)) :: (.int .i64 m.code) :: (.int .i64 m.ft) :: (.slice za0 zn0 zc0) :: (.slice za1 zn1 zc1) :: (.int .i64 m.q.F) :: (.int .i64 m.q.T) :: (.int .i64 m.q.t.k) :: (.int .i64 m.q.t.d) :: (.slice za2 zn2 zc2) :: (.int .i64 m.q.t.lo) :: (.int .i64 m.q.t.hi) :: (.slice za3 zn3 zc3) :: (.int .i64 m.q.g) :: (.slice za4 zn4 zc4) :: (.slice za5 zn5 zc5) :: (.int .i64 m.q.G) :: (.int .i64 m.q.R) :: (.int .i64 m.ps.F) :: (.int .i64 m.ps.T) :: (.int .i64 m.ps.V) :: (.int .i64 m.ps.P) :: (.int .i64 m.ps.C) :: (.int .i64 m.pF) :: (.int .i64 m.pT) :: (.bool m.od) :: (.int .i64 m.os.F) :: (.int .i64 m.os.T) :: (.int .i64 m.os.V) :: (.int .i64 m.os.P) :: (.int .i64 m.os.C) :: (.int .i64 m.on) :: (.slice za6 zn6 zc6) :: (.slice za7 zn7 zc7) :: [])) := by rw [hW0]; exact BxA.new _ _ _
  have hm := hm0.up b0
  obtain ⟨p, hp⟩ : ∃ p, p = w.heap.size + 1 := ⟨_, rfl⟩
  have hw0 : Wr W0 p (W0.alloc (.cells #[.slice none 0 0, .bool false] 64)) (some []) := by
    have e : p = W0.heap.size := by rw [hp, z0]
    subst e
    exact ⟨rfl, (Fi.Grows.alloc _ _).below, by simp, .slice none 0 0, [], by simp, by simp, by simp, by simp, ⟨rfl, .inl ⟨rfl, rfl⟩⟩, fun x hx => ⟨Option.some.inj hx, by rw [← Option.some.inj hx]; simp⟩⟩
  have k1 : ∀ (w : World) (s : Option Bs), Wr W0 p w s → _ := fun w s h => whead W0 w p s m hm h
  rw [ze0, ze1, ze2, ze3, ze4, ze5, ze6, ze7] at k1
  have Hk1 : Aside _ := k1
  clear k1
  have k2 : ∀ (w : World) (s : Option Bs), Wr W0 p w s → _ := fun w s h => wfact W0 w p s m.ft m.fdv m.fds m.fmv m.fms hm.ft hm.fd hm.fdt hm.fm hm.fmz h
  rw [ze0, ze1] at k2
  have Hk2 : Aside _ := k2
  clear k2
  have k3 : ∀ (w : World) (s : Option Bs), Wr W0 p w s → _ := fun w s h => wquery W0 w p s m.q hm.q h
  rw [ze2, ze3, ze4, ze5] at k3
  have Hk3 : Aside _ := k3
  clear k3
  have k4 : ∀ (w : World) (s : Option Bs), Wr W0 p w s → _ := fun w s h => wpiece W0 w p s m.ps m.pF m.pT hm.ps hm.pF hm.pT h
  have Hk4 : Aside _ := k4
  clear k4
  have k5 : ∀ (w : World) (s : Option Bs), Wr W0 p w s → _ := fun w s h => worder W0 w p s m.od m.os m.on hm.os hm.on h
  have Hk5 : Aside _ := k5
  clear k5
  have k6 : ∀ (w : World) (s : Option Bs), Wr W0 p w s → _ := fun w s h => wsegs W0 w p s m.sv m.sg h hm.s hm.si
  rw [ze6] at k6
  have Hk6 : Aside _ := k6
  clear k6
  have k7 : ∀ (w : World) (s : Option Bs), Wr W0 p w s → _ := fun w s h => wgrps W0 w p s m.gv m.gp h hm.g hm.go
  rw [ze7] at k7
  have Hk7 : Aside _ := k7
  clear k7
  rw [ze0, ze1, ze2, ze3, ze4, ze5, ze6, ze7]
  have HW0 : Hid (W0 = _) := hW0
  have HP : Hid (p = w.heap.size + 1) := hp
  have HB0 : Hid (Below w.heap.size w W0) := b0
  have HX0 : Hid (BxA W0 w.heap.size 46 (List.toArray ((.int .i64 m.kind) :: (.int .i64 m.frm) :: (.int .i64 m.to) :: (.int .u64 (m.id : Nat)) :: (.int .u64 (m.ask : Nat)) :: (.int .u64 (m.off : Nat)) :: (.int .i64 m.term) :: (.int .u64 (m.cnt : Nat)) :: (.int .i64 m.code) :: (.int .i64 m.ft) :: (.slice za0 zn0 zc0) :: (.slice za1 zn1 zc1) :: (.int .i64 m.q.F) :: (.int .i64 m.q.T) :: (.int .i64 m.q.t.k) :: (.int .i64 m.q.t.d) :: (.slice za2 zn2 zc2) :: (.int .i64 m.q.t.lo) :: (.int .i64 m.q.t.hi) :: (.slice za3 zn3 zc3) :: (.int .i64 m.q.g) :: (.slice za4 zn4 zc4) :: (.slice za5 zn5 zc5) :: (.int .i64 m.q.G) :: (.int .i64 m.q.R) :: (.int .i64 m.ps.F) :: (.int .i64 m.ps.T) :: (.int .i64 m.ps.V) :: (.int .i64 m.ps.P) :: (.int .i64 m.ps.C) :: (.int .i64 m.pF) :: (.int .i64 m.pT) :: (.bool m.od) :: (.int .i64 m.os.F) :: (.int .i64 m.os.T) :: (.int .i64 m.os.V) :: (.int .i64 m.os.P) :: (.int .i64 m.os.C) :: (.int .i64 m.on) :: (.slice za6 zn6 zc6) :: (.slice za7 zn7 zc7) :: []))) := x0
  have HZ0 : Hid (W0.heap.size = w.heap.size + 1) := z0
  have H0 : Hid (Wr W0 p _ (some [])) := hw0
  clear hm hm0 hW0 b0 z0 x0 hp hw0 ze0 ze1 ze2 ze3 ze4 ze5 ze6 ze7
  go_enter Try.func9, Try.ntmps9
  go_upto_region 2 with fail
  rw [← HW0.out, ← HP.out]
  obtain ⟨V0, hV0⟩ : ∃ V0, V0 = W0.alloc (.cells #[.slice none 0 0, .bool false] 64) := ⟨_, rfl⟩
  have gV : Below W0.heap.size W0 V0 := by rw [hV0]; exact (Fi.Grows.alloc _ _).below
  rw [← hV0]
  rw [← hV0] at H0
  clear hV0
  have HXV : Hid (BxA V0 w.heap.size 46 (List.toArray ((.int .i64 m.kind) :: (.int .i64 m.frm) :: (.int .i64 m.to) :: (.int .u64 (m.id : Nat)) :: (.int .u64 (m.ask : Nat)) :: (.int .u64 (m.off : Nat)) :: (.int .i64 m.term) :: (.int .u64 (m.cnt : Nat)) :: (.int .i64 m.code) :: (.int .i64 m.ft) :: (.slice za0 zn0 zc0) :: (.slice za1 zn1 zc1) :: (.int .i64 m.q.F) :: (.int .i64 m.q.T) :: (.int .i64 m.q.t.k) :: (.int .i64 m.q.t.d) :: (.slice za2 zn2 zc2) :: (.int .i64 m.q.t.lo) :: (.int .i64 m.q.t.hi) :: (.slice za3 zn3 zc3) :: (.int .i64 m.q.g) :: (.slice za4 zn4 zc4) :: (.slice za5 zn5 zc5) :: (.int .i64 m.q.G) :: (.int .i64 m.q.R) :: (.int .i64 m.ps.F) :: (.int .i64 m.ps.T) :: (.int .i64 m.ps.V) :: (.int .i64 m.ps.P) :: (.int .i64 m.ps.C) :: (.int .i64 m.pF) :: (.int .i64 m.pT) :: (.bool m.od) :: (.int .i64 m.os.F) :: (.int .i64 m.os.T) :: (.int .i64 m.os.V) :: (.int .i64 m.os.P) :: (.int .i64 m.os.C) :: (.int .i64 m.on) :: (.slice za6 zn6 zc6) :: (.slice za7 zn7 zc7) :: []))) := by
    apply hide
    unfold BxA
    rw [gV.block _ (by rw [HZ0.out]; exact Nat.lt_succ_self _)]
    exact HX0.out
  go_wp2_with (first | (refine wpList_load_row rfl 46 _ rfl w.heap.size rfl 46 _ (0, 0) _ HXV.out Try.underlying46 rfl msg_size ?_))
  clear gV
  refine (Hk1.out V0 _ H0.out).mono ?_
  rintro e w1 ⟨rfl, H, -⟩
  have H1 : Hid (Wr W0 p w1 _) := H
  clear H
  have q9 : w1.cell? ⟨w.heap.size, 9, none⟩ = some (.int .i64 m.ft) := by rw [H1.out.b.cell (by rw [HZ0.out]; exact Nat.lt_succ_self _)]; exact HX0.out.cell 9 _ rfl
  have q10 : w1.cell? ⟨w.heap.size, 10, none⟩ = some (.slice za0 zn0 zc0) := by rw [H1.out.b.cell (by rw [HZ0.out]; exact Nat.lt_succ_self _)]; exact HX0.out.cell 10 _ rfl
  have q11 : w1.cell? ⟨w.heap.size, 11, none⟩ = some (.slice za1 zn1 zc1) := by rw [H1.out.b.cell (by rw [HZ0.out]; exact Nat.lt_succ_self _)]; exact HX0.out.cell 11 _ rfl
  go_wp2_with fail
  clear q9 q10 q11
  refine (Hk2.out w1 _ H1.out).mono ?_
  rintro e w2 ⟨rfl, H, -⟩
  have H2 : Hid (Wr W0 p w2 _) := H
  clear H
  have q12 : w2.cell? ⟨w.heap.size, 12, none⟩ = some (.int .i64 m.q.F) := by rw [H2.out.b.cell (by rw [HZ0.out]; exact Nat.lt_succ_self _)]; exact HX0.out.cell 12 _ rfl
  have q13 : w2.cell? ⟨w.heap.size, 13, none⟩ = some (.int .i64 m.q.T) := by rw [H2.out.b.cell (by rw [HZ0.out]; exact Nat.lt_succ_self _)]; exact HX0.out.cell 13 _ rfl
  have q14 : w2.cell? ⟨w.heap.size, 14, none⟩ = some (.int .i64 m.q.t.k) := by rw [H2.out.b.cell (by rw [HZ0.out]; exact Nat.lt_succ_self _)]; exact HX0.out.cell 14 _ rfl
  have q15 : w2.cell? ⟨w.heap.size, 15, none⟩ = some (.int .i64 m.q.t.d) := by rw [H2.out.b.cell (by rw [HZ0.out]; exact Nat.lt_succ_self _)]; exact HX0.out.cell 15 _ rfl
  have q16 : w2.cell? ⟨w.heap.size, 16, none⟩ = some (.slice za2 zn2 zc2) := by rw [H2.out.b.cell (by rw [HZ0.out]; exact Nat.lt_succ_self _)]; exact HX0.out.cell 16 _ rfl
  have q17 : w2.cell? ⟨w.heap.size, 17, none⟩ = some (.int .i64 m.q.t.lo) := by rw [H2.out.b.cell (by rw [HZ0.out]; exact Nat.lt_succ_self _)]; exact HX0.out.cell 17 _ rfl
  have q18 : w2.cell? ⟨w.heap.size, 18, none⟩ = some (.int .i64 m.q.t.hi) := by rw [H2.out.b.cell (by rw [HZ0.out]; exact Nat.lt_succ_self _)]; exact HX0.out.cell 18 _ rfl
  have q19 : w2.cell? ⟨w.heap.size, 19, none⟩ = some (.slice za3 zn3 zc3) := by rw [H2.out.b.cell (by rw [HZ0.out]; exact Nat.lt_succ_self _)]; exact HX0.out.cell 19 _ rfl
  have q20 : w2.cell? ⟨w.heap.size, 20, none⟩ = some (.int .i64 m.q.g) := by rw [H2.out.b.cell (by rw [HZ0.out]; exact Nat.lt_succ_self _)]; exact HX0.out.cell 20 _ rfl
  have q21 : w2.cell? ⟨w.heap.size, 21, none⟩ = some (.slice za4 zn4 zc4) := by rw [H2.out.b.cell (by rw [HZ0.out]; exact Nat.lt_succ_self _)]; exact HX0.out.cell 21 _ rfl
  have q22 : w2.cell? ⟨w.heap.size, 22, none⟩ = some (.slice za5 zn5 zc5) := by rw [H2.out.b.cell (by rw [HZ0.out]; exact Nat.lt_succ_self _)]; exact HX0.out.cell 22 _ rfl
  have q23 : w2.cell? ⟨w.heap.size, 23, none⟩ = some (.int .i64 m.q.G) := by rw [H2.out.b.cell (by rw [HZ0.out]; exact Nat.lt_succ_self _)]; exact HX0.out.cell 23 _ rfl
  have q24 : w2.cell? ⟨w.heap.size, 24, none⟩ = some (.int .i64 m.q.R) := by rw [H2.out.b.cell (by rw [HZ0.out]; exact Nat.lt_succ_self _)]; exact HX0.out.cell 24 _ rfl
  go_wp2_with fail
  clear q12 q13 q14 q15 q16 q17 q18 q19 q20 q21 q22 q23 q24
  refine (Hk3.out w2 _ H2.out).mono ?_
  rintro e w3 ⟨rfl, H, -⟩
  have H3 : Hid (Wr W0 p w3 _) := H
  clear H
  have q25 : w3.cell? ⟨w.heap.size, 25, none⟩ = some (.int .i64 m.ps.F) := by rw [H3.out.b.cell (by rw [HZ0.out]; exact Nat.lt_succ_self _)]; exact HX0.out.cell 25 _ rfl
  have q26 : w3.cell? ⟨w.heap.size, 26, none⟩ = some (.int .i64 m.ps.T) := by rw [H3.out.b.cell (by rw [HZ0.out]; exact Nat.lt_succ_self _)]; exact HX0.out.cell 26 _ rfl
  have q27 : w3.cell? ⟨w.heap.size, 27, none⟩ = some (.int .i64 m.ps.V) := by rw [H3.out.b.cell (by rw [HZ0.out]; exact Nat.lt_succ_self _)]; exact HX0.out.cell 27 _ rfl
  have q28 : w3.cell? ⟨w.heap.size, 28, none⟩ = some (.int .i64 m.ps.P) := by rw [H3.out.b.cell (by rw [HZ0.out]; exact Nat.lt_succ_self _)]; exact HX0.out.cell 28 _ rfl
  have q29 : w3.cell? ⟨w.heap.size, 29, none⟩ = some (.int .i64 m.ps.C) := by rw [H3.out.b.cell (by rw [HZ0.out]; exact Nat.lt_succ_self _)]; exact HX0.out.cell 29 _ rfl
  have q30 : w3.cell? ⟨w.heap.size, 30, none⟩ = some (.int .i64 m.pF) := by rw [H3.out.b.cell (by rw [HZ0.out]; exact Nat.lt_succ_self _)]; exact HX0.out.cell 30 _ rfl
  have q31 : w3.cell? ⟨w.heap.size, 31, none⟩ = some (.int .i64 m.pT) := by rw [H3.out.b.cell (by rw [HZ0.out]; exact Nat.lt_succ_self _)]; exact HX0.out.cell 31 _ rfl
  go_wp2_with fail
  clear q25 q26 q27 q28 q29 q30 q31
  refine (Hk4.out w3 _ H3.out).mono ?_
  rintro e w4 ⟨rfl, H, -⟩
  have H4 : Hid (Wr W0 p w4 _) := H
  clear H
  have q32 : w4.cell? ⟨w.heap.size, 32, none⟩ = some (.bool m.od) := by rw [H4.out.b.cell (by rw [HZ0.out]; exact Nat.lt_succ_self _)]; exact HX0.out.cell 32 _ rfl
  have q33 : w4.cell? ⟨w.heap.size, 33, none⟩ = some (.int .i64 m.os.F) := by rw [H4.out.b.cell (by rw [HZ0.out]; exact Nat.lt_succ_self _)]; exact HX0.out.cell 33 _ rfl
  have q34 : w4.cell? ⟨w.heap.size, 34, none⟩ = some (.int .i64 m.os.T) := by rw [H4.out.b.cell (by rw [HZ0.out]; exact Nat.lt_succ_self _)]; exact HX0.out.cell 34 _ rfl
  have q35 : w4.cell? ⟨w.heap.size, 35, none⟩ = some (.int .i64 m.os.V) := by rw [H4.out.b.cell (by rw [HZ0.out]; exact Nat.lt_succ_self _)]; exact HX0.out.cell 35 _ rfl
  have q36 : w4.cell? ⟨w.heap.size, 36, none⟩ = some (.int .i64 m.os.P) := by rw [H4.out.b.cell (by rw [HZ0.out]; exact Nat.lt_succ_self _)]; exact HX0.out.cell 36 _ rfl
  have q37 : w4.cell? ⟨w.heap.size, 37, none⟩ = some (.int .i64 m.os.C) := by rw [H4.out.b.cell (by rw [HZ0.out]; exact Nat.lt_succ_self _)]; exact HX0.out.cell 37 _ rfl
  have q38 : w4.cell? ⟨w.heap.size, 38, none⟩ = some (.int .i64 m.on) := by rw [H4.out.b.cell (by rw [HZ0.out]; exact Nat.lt_succ_self _)]; exact HX0.out.cell 38 _ rfl
  go_wp2_with fail
  clear q32 q33 q34 q35 q36 q37 q38
  refine (Hk5.out w4 _ H4.out).mono ?_
  rintro e w5 ⟨rfl, H, -⟩
  have H5 : Hid (Wr W0 p w5 _) := H
  clear H
  have q39 : w5.cell? ⟨w.heap.size, 39, none⟩ = some (.slice za6 zn6 zc6) := by rw [H5.out.b.cell (by rw [HZ0.out]; exact Nat.lt_succ_self _)]; exact HX0.out.cell 39 _ rfl
  go_wp2_with fail
  clear q39
  refine (Hk6.out w5 _ H5.out).mono ?_
  rintro e w6 ⟨rfl, H, -⟩
  have H6 : Hid (Wr W0 p w6 _) := H
  clear H
  have q40 : w6.cell? ⟨w.heap.size, 40, none⟩ = some (.slice za7 zn7 zc7) := by rw [H6.out.b.cell (by rw [HZ0.out]; exact Nat.lt_succ_self _)]; exact HX0.out.cell 40 _ rfl
  go_wp2_with fail
  clear q40
  refine (Hk7.out w6 _ H6.out).mono ?_
  rintro e w7 ⟨rfl, H, -⟩
  have H7 : Hid (Wr W0 p w7 _) := H
  clear H
  have HE : Hid (Wr W0 p w7 (put (some []) (e_msg m))) := by
    apply hide
    have := H7.out
    simpa only [put_put, cat_assoc, e_msg] using this
  clear H0 H1 H2 H3 H4 H5 H6 H7
  obtain ⟨R, hR⟩ : ∃ R, R = put (some []) (e_msg m) := ⟨_, rfl⟩
  rw [← hR] at HE
  have HR : Hid (R = put (some []) (e_msg m)) := hR
  clear hR
  obtain ⟨hp2, b7, z7, v7, l7, c0, c1, f0, f1, o7, hx7⟩ := HE.out
  have HO : Hid (Owns w7 (p + 1) v7 l7) := o7
  have HB7 : Hid (Below w.heap.size w w7) := HB0.out.trans (b7.mono HB0.out.size)
  obtain ⟨a7, k7, rfl⟩ := o7.shape l7.length rfl
  clear hp2 b7 o7 f0 f1
  cases R with
  | none =>
    change w7.cell? ⟨p, 1, none⟩ = some (.bool true) at c1
    clear hx7
    go_wp2_with fail
    go_ret2
    exact ⟨HB7.out, .inl ⟨HR.out.symm, rfl⟩⟩
  | some x =>
    obtain ⟨rfl, hl⟩ := hx7 x rfl
    change w7.cell? ⟨p, 1, none⟩ = some (.bool false) at c1
    clear hx7
    go_wp2_with fail
    go_ret2
    exact ⟨HB7.out, .inr ⟨l7, _, HR.out.symm, rfl, HO.out.mono (by have := HP.out; omega)⟩⟩
end Go.Proofs.Ytpdlioidiobbbaa
