/- Messages, and the program's Put. -/
import Derived.Test.YtpdlioidiobbbaaWms
namespace Go.Proofs.Ytpdlioidiobbbaa
open Go.RowKit

/-- A message as it lies in memory. -/
structure Mm where
  kind : Int
  frm : Int
  to : Int
  id : Nat
  ask : Nat
  off : Nat
  term : Int
  cnt : Nat
  code : Int
  ft : Int
  fdv : Value
  fds : List Fi.Str
  fmv : Value
  fms : List Int
  q : Qw
  ps : Sg
  pF : Int
  pT : Int
  od : Bool
  os : Sg
  on : Int
  sv : Value
  sg : List Sg
  gv : Value
  gp : List Gp
structure Mm.Ok (w : World) (m : Mm) : Prop where
  kind : In64 m.kind
  frm : In64 m.frm
  to : In64 m.to
  id : InU m.id
  ask : InU m.ask
  off : InU m.off
  term : In64 m.term
  cnt : InU m.cnt
  code : In64 m.code
  ft : In64 m.ft
  fd : Lst 1 cl_str w m.fdv m.fds
  fdt : Txs m.fds
  fm : Lst 1 cl_i64 w m.fmv m.fms
  fmz : Zs m.fms
  q : m.q.Ok w
  ps : m.ps.In
  pF : In64 m.pF
  pT : In64 m.pT
  os : m.os.In
  on : In64 m.on
  s : Lst 5 cl_seg w m.sv m.sg
  si : ∀ x ∈ m.sg, x.In
  g : Lst 4 cl_grp w m.gv m.gp
  go : ∀ x ∈ m.gp, x.Ok w
theorem Pt.Ok.up {w w' : World} {x : Pt} (h : x.Ok w) (b : Below w.heap.size w w') : x.Ok w' := ⟨h.n, h.v, h.r.below b, h.t⟩
theorem Gp.Ok.up {w w' : World} {x : Gp} (h : x.Ok w) (b : Below w.heap.size w w') : x.Ok w' := ⟨h.s, h.b, h.r.below b, h.t, h.p.below b, fun y hy => (h.o y hy).up b⟩
theorem Qw.Ok.up {w w' : World} {q : Qw} (h : q.Ok w) (b : Below w.heap.size w w') : q.Ok w' := ⟨h.f, h.e, h.t.up b, h.i, h.g, h.s.below b, fun x hx => ⟨(h.z x hx).1.below b, (h.z x hx).2⟩, h.a.below b, h.b, h.c, h.r⟩
theorem Mm.Ok.up {w w' : World} {m : Mm} (h : m.Ok w) (b : Below w.heap.size w w') : m.Ok w' :=
  ⟨h.kind, h.frm, h.to, h.id, h.ask, h.off, h.term, h.cnt, h.code, h.ft, h.fd.below b, h.fdt, h.fm.below b, h.fmz, h.q.up b, h.ps, h.pF, h.pT, h.os, h.on, h.s.below b, h.si, h.g.below b, fun x hx => (h.go x hx).up b⟩
def e_head (m : Mm) : Option Bs := cat (e_int m.kind) (cat (e_int m.frm) (cat (e_int m.to) (cat (e_u m.id) (cat (e_u m.ask) (cat (e_u m.off) (cat (e_int m.term) (cat (e_u m.cnt) (e_int m.code))))))))
def e_msg (m : Mm) : Option Bs := cat (e_head m) (cat (e_fact m.ft m.fds m.fms) (cat (e_query m.q) (cat (e_piece m.ps m.pF m.pT) (cat (e_order m.od m.os m.on) (cat (el e_seg m.sg) (el e_grp m.gp))))))
/-- What Put answers. -/
def Puts (w : World) (r : Option Bs) (e : Ending) (w' : World) : Prop := Below w.heap.size w w' ∧ ((r = none ∧ e = .returned (.tuple #[.slice none 0 0, .int .i64 1])) ∨ ∃ b v, r = some b ∧ e = .returned (.tuple #[v, .int .i64 0]) ∧ Owns w' w.heap.size v b)
set_option maxRecDepth 100000 in
set_option maxHeartbeats 3200000 in
theorem whead (W0 w : World) (p : Nat) (s : Option Bs) (m : Mm) (hm : m.Ok W0) (h : Wr W0 p w s) :
    Calls Try.prog 19 #[.pointer (some ⟨p, 0, none⟩), .agg (List.toArray ((.int .i64 m.kind) :: (.int .i64 m.frm) :: (.int .i64 m.to) :: (.int .u64 (m.id : Nat)) :: (.int .u64 (m.ask : Nat)) :: (.int .u64 (m.off : Nat)) :: (.int .i64 m.term) :: (.int .u64 (m.cnt : Nat)) :: (.int .i64 m.code) :: (.int .i64 m.ft) :: (m.fdv) :: (m.fmv) :: (.int .i64 m.q.F) :: (.int .i64 m.q.T) :: (.int .i64 m.q.t.k) :: (.int .i64 m.q.t.d) :: (m.q.t.tv) :: (.int .i64 m.q.t.lo) :: (.int .i64 m.q.t.hi) :: (m.q.t.kv) :: (.int .i64 m.q.g) :: (m.q.sv) :: (m.q.av) :: (.int .i64 m.q.G) :: (.int .i64 m.q.R) :: (.int .i64 m.ps.F) :: (.int .i64 m.ps.T) :: (.int .i64 m.ps.V) :: (.int .i64 m.ps.P) :: (.int .i64 m.ps.C) :: (.int .i64 m.pF) :: (.int .i64 m.pT) :: (.bool m.od) :: (.int .i64 m.os.F) :: (.int .i64 m.os.T) :: (.int .i64 m.os.V) :: (.int .i64 m.os.P) :: (.int .i64 m.os.C) :: (.int .i64 m.on) :: (m.sv) :: (m.gv) :: []))] w (Wrote W0 p w (put s (e_head m))) := by
  obtain ⟨za0, zn0, zc0, ze0⟩ := lst_sl hm.fd
  obtain ⟨za1, zn1, zc1, ze1⟩ := lst_sl hm.fm
  obtain ⟨za2, zn2, zc2, ze2⟩ := lst_sl (rds_lst hm.q.t.rt)
  obtain ⟨za3, zn3, zc3, ze3⟩ := lst_sl (tr_lst hm.q.t)
  obtain ⟨za4, zn4, zc4, ze4⟩ := lst_sl hm.q.s
  obtain ⟨za5, zn5, zc5, ze5⟩ := lst_sl hm.q.a
  obtain ⟨za6, zn6, zc6, ze6⟩ := lst_sl hm.s
  obtain ⟨za7, zn7, zc7, ze7⟩ := lst_sl hm.g
  rw [ze0, ze1, ze2, ze3, ze4, ze5, ze6, ze7]
  clear ze0 ze1 ze2 ze3 ze4 ze5 ze6 ze7
  have hz := h.z
  go_enter Try.func19, Try.ntmps19
  go_wp2_with fail
  refine (wwhole W0 _ p m.kind _ (h.alloc _) hm.kind.1 hm.kind.2).mono ?_
  rintro e w1 ⟨rfl, H, K⟩
  have H1 : Hid (Wr W0 p w1 _) := H
  have K1 : Hid (KP p w w1) := ((KP.refl p w).trans (KP.alloc p _ _)).trans K
  have X0_1 : Hid (BxA w1 (w.heap.size) 46 (List.toArray ((.int .i64 m.kind) :: (.int .i64 m.frm) :: (.int .i64 m.to) :: (.int .u64 (m.id : Nat)) :: (.int .u64 (m.ask : Nat)) :: (.int .u64 (m.off : Nat)) :: (.int .i64 m.term) :: (.int .u64 (m.cnt : Nat)) :: (.int .i64 m.code) :: (.int .i64 m.ft) :: (.slice za0 zn0 zc0) :: (.slice za1 zn1 zc1) :: (.int .i64 m.q.F) :: (.int .i64 m.q.T) :: (.int .i64 m.q.t.k) :: (.int .i64 m.q.t.d) :: (.slice za2 zn2 zc2) :: (.int .i64 m.q.t.lo) :: (.int .i64 m.q.t.hi) :: (.slice za3 zn3 zc3) :: (.int .i64 m.q.g) :: (.slice za4 zn4 zc4) :: (.slice za5 zn5 zc5) :: (.int .i64 m.q.G) :: (.int .i64 m.q.R) :: (.int .i64 m.ps.F) :: (.int .i64 m.ps.T) :: (.int .i64 m.ps.V) :: (.int .i64 m.ps.P) :: (.int .i64 m.ps.C) :: (.int .i64 m.pF) :: (.int .i64 m.pT) :: (.bool m.od) :: (.int .i64 m.os.F) :: (.int .i64 m.os.T) :: (.int .i64 m.os.V) :: (.int .i64 m.os.P) :: (.int .i64 m.os.C) :: (.int .i64 m.on) :: (.slice za6 zn6 zc6) :: (.slice za7 zn7 zc7) :: []))) := ((BxA.new _ _ _)).kp K (by omega) (by decide)
  clear H K
  have q0_1 : w1.cell? ⟨w.heap.size, 1, none⟩ = some (.int .i64 m.frm) := X0_1.out.cell 1 _ rfl
  go_wp2_with fail
  clear q0_1
  refine (wwhole W0 w1 p m.frm _ H1.out hm.frm.1 hm.frm.2).mono ?_
  rintro e w2 ⟨rfl, H, K⟩
  have H2 : Hid (Wr W0 p w2 _) := H
  have K2 : Hid (KP p w w2) := K1.out.trans K
  have X0_2 : Hid (BxA w2 (w.heap.size) 46 (List.toArray ((.int .i64 m.kind) :: (.int .i64 m.frm) :: (.int .i64 m.to) :: (.int .u64 (m.id : Nat)) :: (.int .u64 (m.ask : Nat)) :: (.int .u64 (m.off : Nat)) :: (.int .i64 m.term) :: (.int .u64 (m.cnt : Nat)) :: (.int .i64 m.code) :: (.int .i64 m.ft) :: (.slice za0 zn0 zc0) :: (.slice za1 zn1 zc1) :: (.int .i64 m.q.F) :: (.int .i64 m.q.T) :: (.int .i64 m.q.t.k) :: (.int .i64 m.q.t.d) :: (.slice za2 zn2 zc2) :: (.int .i64 m.q.t.lo) :: (.int .i64 m.q.t.hi) :: (.slice za3 zn3 zc3) :: (.int .i64 m.q.g) :: (.slice za4 zn4 zc4) :: (.slice za5 zn5 zc5) :: (.int .i64 m.q.G) :: (.int .i64 m.q.R) :: (.int .i64 m.ps.F) :: (.int .i64 m.ps.T) :: (.int .i64 m.ps.V) :: (.int .i64 m.ps.P) :: (.int .i64 m.ps.C) :: (.int .i64 m.pF) :: (.int .i64 m.pT) :: (.bool m.od) :: (.int .i64 m.os.F) :: (.int .i64 m.os.T) :: (.int .i64 m.os.V) :: (.int .i64 m.os.P) :: (.int .i64 m.os.C) :: (.int .i64 m.on) :: (.slice za6 zn6 zc6) :: (.slice za7 zn7 zc7) :: []))) := X0_1.out.kp K (by omega) (by decide)
  clear H K
  have q0_2 : w2.cell? ⟨w.heap.size, 2, none⟩ = some (.int .i64 m.to) := X0_2.out.cell 2 _ rfl
  go_wp2_with fail
  clear q0_2
  refine (wwhole W0 w2 p m.to _ H2.out hm.to.1 hm.to.2).mono ?_
  rintro e w3 ⟨rfl, H, K⟩
  have H3 : Hid (Wr W0 p w3 _) := H
  have K3 : Hid (KP p w w3) := K2.out.trans K
  have X0_3 : Hid (BxA w3 (w.heap.size) 46 (List.toArray ((.int .i64 m.kind) :: (.int .i64 m.frm) :: (.int .i64 m.to) :: (.int .u64 (m.id : Nat)) :: (.int .u64 (m.ask : Nat)) :: (.int .u64 (m.off : Nat)) :: (.int .i64 m.term) :: (.int .u64 (m.cnt : Nat)) :: (.int .i64 m.code) :: (.int .i64 m.ft) :: (.slice za0 zn0 zc0) :: (.slice za1 zn1 zc1) :: (.int .i64 m.q.F) :: (.int .i64 m.q.T) :: (.int .i64 m.q.t.k) :: (.int .i64 m.q.t.d) :: (.slice za2 zn2 zc2) :: (.int .i64 m.q.t.lo) :: (.int .i64 m.q.t.hi) :: (.slice za3 zn3 zc3) :: (.int .i64 m.q.g) :: (.slice za4 zn4 zc4) :: (.slice za5 zn5 zc5) :: (.int .i64 m.q.G) :: (.int .i64 m.q.R) :: (.int .i64 m.ps.F) :: (.int .i64 m.ps.T) :: (.int .i64 m.ps.V) :: (.int .i64 m.ps.P) :: (.int .i64 m.ps.C) :: (.int .i64 m.pF) :: (.int .i64 m.pT) :: (.bool m.od) :: (.int .i64 m.os.F) :: (.int .i64 m.os.T) :: (.int .i64 m.os.V) :: (.int .i64 m.os.P) :: (.int .i64 m.os.C) :: (.int .i64 m.on) :: (.slice za6 zn6 zc6) :: (.slice za7 zn7 zc7) :: []))) := X0_2.out.kp K (by omega) (by decide)
  clear H K
  have q0_3 : w3.cell? ⟨w.heap.size, 3, none⟩ = some (.int .u64 (m.id : Nat)) := X0_3.out.cell 3 _ rfl
  go_wp2_with fail
  clear q0_3
  refine (wuint W0 w3 p m.id _ H3.out hm.id).mono ?_
  rintro e w4 ⟨rfl, H, K⟩
  have H4 : Hid (Wr W0 p w4 _) := H
  have K4 : Hid (KP p w w4) := K3.out.trans K
  have X0_4 : Hid (BxA w4 (w.heap.size) 46 (List.toArray ((.int .i64 m.kind) :: (.int .i64 m.frm) :: (.int .i64 m.to) :: (.int .u64 (m.id : Nat)) :: (.int .u64 (m.ask : Nat)) :: (.int .u64 (m.off : Nat)) :: (.int .i64 m.term) :: (.int .u64 (m.cnt : Nat)) :: (.int .i64 m.code) :: (.int .i64 m.ft) :: (.slice za0 zn0 zc0) :: (.slice za1 zn1 zc1) :: (.int .i64 m.q.F) :: (.int .i64 m.q.T) :: (.int .i64 m.q.t.k) :: (.int .i64 m.q.t.d) :: (.slice za2 zn2 zc2) :: (.int .i64 m.q.t.lo) :: (.int .i64 m.q.t.hi) :: (.slice za3 zn3 zc3) :: (.int .i64 m.q.g) :: (.slice za4 zn4 zc4) :: (.slice za5 zn5 zc5) :: (.int .i64 m.q.G) :: (.int .i64 m.q.R) :: (.int .i64 m.ps.F) :: (.int .i64 m.ps.T) :: (.int .i64 m.ps.V) :: (.int .i64 m.ps.P) :: (.int .i64 m.ps.C) :: (.int .i64 m.pF) :: (.int .i64 m.pT) :: (.bool m.od) :: (.int .i64 m.os.F) :: (.int .i64 m.os.T) :: (.int .i64 m.os.V) :: (.int .i64 m.os.P) :: (.int .i64 m.os.C) :: (.int .i64 m.on) :: (.slice za6 zn6 zc6) :: (.slice za7 zn7 zc7) :: []))) := X0_3.out.kp K (by omega) (by decide)
  clear H K
  have q0_4 : w4.cell? ⟨w.heap.size, 4, none⟩ = some (.int .u64 (m.ask : Nat)) := X0_4.out.cell 4 _ rfl
  go_wp2_with fail
  clear q0_4
  refine (wuint W0 w4 p m.ask _ H4.out hm.ask).mono ?_
  rintro e w5 ⟨rfl, H, K⟩
  have H5 : Hid (Wr W0 p w5 _) := H
  have K5 : Hid (KP p w w5) := K4.out.trans K
  have X0_5 : Hid (BxA w5 (w.heap.size) 46 (List.toArray ((.int .i64 m.kind) :: (.int .i64 m.frm) :: (.int .i64 m.to) :: (.int .u64 (m.id : Nat)) :: (.int .u64 (m.ask : Nat)) :: (.int .u64 (m.off : Nat)) :: (.int .i64 m.term) :: (.int .u64 (m.cnt : Nat)) :: (.int .i64 m.code) :: (.int .i64 m.ft) :: (.slice za0 zn0 zc0) :: (.slice za1 zn1 zc1) :: (.int .i64 m.q.F) :: (.int .i64 m.q.T) :: (.int .i64 m.q.t.k) :: (.int .i64 m.q.t.d) :: (.slice za2 zn2 zc2) :: (.int .i64 m.q.t.lo) :: (.int .i64 m.q.t.hi) :: (.slice za3 zn3 zc3) :: (.int .i64 m.q.g) :: (.slice za4 zn4 zc4) :: (.slice za5 zn5 zc5) :: (.int .i64 m.q.G) :: (.int .i64 m.q.R) :: (.int .i64 m.ps.F) :: (.int .i64 m.ps.T) :: (.int .i64 m.ps.V) :: (.int .i64 m.ps.P) :: (.int .i64 m.ps.C) :: (.int .i64 m.pF) :: (.int .i64 m.pT) :: (.bool m.od) :: (.int .i64 m.os.F) :: (.int .i64 m.os.T) :: (.int .i64 m.os.V) :: (.int .i64 m.os.P) :: (.int .i64 m.os.C) :: (.int .i64 m.on) :: (.slice za6 zn6 zc6) :: (.slice za7 zn7 zc7) :: []))) := X0_4.out.kp K (by omega) (by decide)
  clear H K
  have q0_5 : w5.cell? ⟨w.heap.size, 5, none⟩ = some (.int .u64 (m.off : Nat)) := X0_5.out.cell 5 _ rfl
  go_wp2_with fail
  clear q0_5
  refine (wuint W0 w5 p m.off _ H5.out hm.off).mono ?_
  rintro e w6 ⟨rfl, H, K⟩
  have H6 : Hid (Wr W0 p w6 _) := H
  have K6 : Hid (KP p w w6) := K5.out.trans K
  have X0_6 : Hid (BxA w6 (w.heap.size) 46 (List.toArray ((.int .i64 m.kind) :: (.int .i64 m.frm) :: (.int .i64 m.to) :: (.int .u64 (m.id : Nat)) :: (.int .u64 (m.ask : Nat)) :: (.int .u64 (m.off : Nat)) :: (.int .i64 m.term) :: (.int .u64 (m.cnt : Nat)) :: (.int .i64 m.code) :: (.int .i64 m.ft) :: (.slice za0 zn0 zc0) :: (.slice za1 zn1 zc1) :: (.int .i64 m.q.F) :: (.int .i64 m.q.T) :: (.int .i64 m.q.t.k) :: (.int .i64 m.q.t.d) :: (.slice za2 zn2 zc2) :: (.int .i64 m.q.t.lo) :: (.int .i64 m.q.t.hi) :: (.slice za3 zn3 zc3) :: (.int .i64 m.q.g) :: (.slice za4 zn4 zc4) :: (.slice za5 zn5 zc5) :: (.int .i64 m.q.G) :: (.int .i64 m.q.R) :: (.int .i64 m.ps.F) :: (.int .i64 m.ps.T) :: (.int .i64 m.ps.V) :: (.int .i64 m.ps.P) :: (.int .i64 m.ps.C) :: (.int .i64 m.pF) :: (.int .i64 m.pT) :: (.bool m.od) :: (.int .i64 m.os.F) :: (.int .i64 m.os.T) :: (.int .i64 m.os.V) :: (.int .i64 m.os.P) :: (.int .i64 m.os.C) :: (.int .i64 m.on) :: (.slice za6 zn6 zc6) :: (.slice za7 zn7 zc7) :: []))) := X0_5.out.kp K (by omega) (by decide)
  clear H K
  have q0_6 : w6.cell? ⟨w.heap.size, 6, none⟩ = some (.int .i64 m.term) := X0_6.out.cell 6 _ rfl
  go_wp2_with fail
  clear q0_6
  refine (wwhole W0 w6 p m.term _ H6.out hm.term.1 hm.term.2).mono ?_
  rintro e w7 ⟨rfl, H, K⟩
  have H7 : Hid (Wr W0 p w7 _) := H
  have K7 : Hid (KP p w w7) := K6.out.trans K
  have X0_7 : Hid (BxA w7 (w.heap.size) 46 (List.toArray ((.int .i64 m.kind) :: (.int .i64 m.frm) :: (.int .i64 m.to) :: (.int .u64 (m.id : Nat)) :: (.int .u64 (m.ask : Nat)) :: (.int .u64 (m.off : Nat)) :: (.int .i64 m.term) :: (.int .u64 (m.cnt : Nat)) :: (.int .i64 m.code) :: (.int .i64 m.ft) :: (.slice za0 zn0 zc0) :: (.slice za1 zn1 zc1) :: (.int .i64 m.q.F) :: (.int .i64 m.q.T) :: (.int .i64 m.q.t.k) :: (.int .i64 m.q.t.d) :: (.slice za2 zn2 zc2) :: (.int .i64 m.q.t.lo) :: (.int .i64 m.q.t.hi) :: (.slice za3 zn3 zc3) :: (.int .i64 m.q.g) :: (.slice za4 zn4 zc4) :: (.slice za5 zn5 zc5) :: (.int .i64 m.q.G) :: (.int .i64 m.q.R) :: (.int .i64 m.ps.F) :: (.int .i64 m.ps.T) :: (.int .i64 m.ps.V) :: (.int .i64 m.ps.P) :: (.int .i64 m.ps.C) :: (.int .i64 m.pF) :: (.int .i64 m.pT) :: (.bool m.od) :: (.int .i64 m.os.F) :: (.int .i64 m.os.T) :: (.int .i64 m.os.V) :: (.int .i64 m.os.P) :: (.int .i64 m.os.C) :: (.int .i64 m.on) :: (.slice za6 zn6 zc6) :: (.slice za7 zn7 zc7) :: []))) := X0_6.out.kp K (by omega) (by decide)
  clear H K
  have q0_7 : w7.cell? ⟨w.heap.size, 7, none⟩ = some (.int .u64 (m.cnt : Nat)) := X0_7.out.cell 7 _ rfl
  go_wp2_with fail
  clear q0_7
  refine (wuint W0 w7 p m.cnt _ H7.out hm.cnt).mono ?_
  rintro e w8 ⟨rfl, H, K⟩
  have H8 : Hid (Wr W0 p w8 _) := H
  have K8 : Hid (KP p w w8) := K7.out.trans K
  have X0_8 : Hid (BxA w8 (w.heap.size) 46 (List.toArray ((.int .i64 m.kind) :: (.int .i64 m.frm) :: (.int .i64 m.to) :: (.int .u64 (m.id : Nat)) :: (.int .u64 (m.ask : Nat)) :: (.int .u64 (m.off : Nat)) :: (.int .i64 m.term) :: (.int .u64 (m.cnt : Nat)) :: (.int .i64 m.code) :: (.int .i64 m.ft) :: (.slice za0 zn0 zc0) :: (.slice za1 zn1 zc1) :: (.int .i64 m.q.F) :: (.int .i64 m.q.T) :: (.int .i64 m.q.t.k) :: (.int .i64 m.q.t.d) :: (.slice za2 zn2 zc2) :: (.int .i64 m.q.t.lo) :: (.int .i64 m.q.t.hi) :: (.slice za3 zn3 zc3) :: (.int .i64 m.q.g) :: (.slice za4 zn4 zc4) :: (.slice za5 zn5 zc5) :: (.int .i64 m.q.G) :: (.int .i64 m.q.R) :: (.int .i64 m.ps.F) :: (.int .i64 m.ps.T) :: (.int .i64 m.ps.V) :: (.int .i64 m.ps.P) :: (.int .i64 m.ps.C) :: (.int .i64 m.pF) :: (.int .i64 m.pT) :: (.bool m.od) :: (.int .i64 m.os.F) :: (.int .i64 m.os.T) :: (.int .i64 m.os.V) :: (.int .i64 m.os.P) :: (.int .i64 m.os.C) :: (.int .i64 m.on) :: (.slice za6 zn6 zc6) :: (.slice za7 zn7 zc7) :: []))) := X0_7.out.kp K (by omega) (by decide)
  clear H K
  have q0_8 : w8.cell? ⟨w.heap.size, 8, none⟩ = some (.int .i64 m.code) := X0_8.out.cell 8 _ rfl
  go_wp2_with fail
  clear q0_8
  refine (wwhole W0 w8 p m.code _ H8.out hm.code.1 hm.code.2).mono ?_
  rintro e w9 ⟨rfl, H, K⟩
  have H9 : Hid (Wr W0 p w9 _) := H
  have K9 : Hid (KP p w w9) := K8.out.trans K
  have X0_9 : Hid (BxA w9 (w.heap.size) 46 (List.toArray ((.int .i64 m.kind) :: (.int .i64 m.frm) :: (.int .i64 m.to) :: (.int .u64 (m.id : Nat)) :: (.int .u64 (m.ask : Nat)) :: (.int .u64 (m.off : Nat)) :: (.int .i64 m.term) :: (.int .u64 (m.cnt : Nat)) :: (.int .i64 m.code) :: (.int .i64 m.ft) :: (.slice za0 zn0 zc0) :: (.slice za1 zn1 zc1) :: (.int .i64 m.q.F) :: (.int .i64 m.q.T) :: (.int .i64 m.q.t.k) :: (.int .i64 m.q.t.d) :: (.slice za2 zn2 zc2) :: (.int .i64 m.q.t.lo) :: (.int .i64 m.q.t.hi) :: (.slice za3 zn3 zc3) :: (.int .i64 m.q.g) :: (.slice za4 zn4 zc4) :: (.slice za5 zn5 zc5) :: (.int .i64 m.q.G) :: (.int .i64 m.q.R) :: (.int .i64 m.ps.F) :: (.int .i64 m.ps.T) :: (.int .i64 m.ps.V) :: (.int .i64 m.ps.P) :: (.int .i64 m.ps.C) :: (.int .i64 m.pF) :: (.int .i64 m.pT) :: (.bool m.od) :: (.int .i64 m.os.F) :: (.int .i64 m.os.T) :: (.int .i64 m.os.V) :: (.int .i64 m.os.P) :: (.int .i64 m.os.C) :: (.int .i64 m.on) :: (.slice za6 zn6 zc6) :: (.slice za7 zn7 zc7) :: []))) := X0_8.out.kp K (by omega) (by decide)
  clear H K
  go_wp2_with fail
  go_end0
  refine ⟨rfl, ?_, K9.out⟩
  have := H9.out
  simpa only [put_put, cat_assoc, e_int, e_u, e_bool, e_head] using this
end Go.Proofs.Ytpdlioidiobbbaa
