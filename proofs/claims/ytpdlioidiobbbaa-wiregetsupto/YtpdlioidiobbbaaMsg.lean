/- Messages, and the program's Put. -/
import Derived.Test.YtpdlioidiobbbaaWms
namespace Go.Proofs.Ytpdlioidiobbbaa
open Go.RowKit

/-- A message as it lies in memory. -/
structure Mm where
  kind : Int
  frm : Int
  to : Int
  id : Nat
  ask : Nat
  off : Nat
  term : Int
  cnt : Nat
  code : Int
  ft : Int
  fdv : Value
  fds : List Fi.Str
  fmv : Value
  fms : List Int
  q : Qw
  ps : Sg
  pF : Int
  pT : Int
  od : Bool
  os : Sg
  on : Int
  sv : Value
  sg : List Sg
  gv : Value
  gp : List Gp
structure Mm.Ok (w : World) (m : Mm) : Prop where
  kind : In64 m.kind
  frm : In64 m.frm
  to : In64 m.to
  id : InU m.id
  ask : InU m.ask
  off : InU m.off
  term : In64 m.term
  cnt : InU m.cnt
  code : In64 m.code
  ft : In64 m.ft
  fd : Lst 1 cl_str w m.fdv m.fds
  fdt : Txs m.fds
  fm : Lst 1 cl_i64 w m.fmv m.fms
  fmz : Zs m.fms
  q : m.q.Ok w
  ps : m.ps.In
  pF : In64 m.pF
  pT : In64 m.pT
  os : m.os.In
  on : In64 m.on
  s : Lst 5 cl_seg w m.sv m.sg
  si : ∀ x ∈ m.sg, x.In
  g : Lst 4 cl_grp w m.gv m.gp
  go : ∀ x ∈ m.gp, x.Ok w
theorem Pt.Ok.up {w w' : World} {x : Pt} (h : x.Ok w) (b : Below w.heap.size w w') : x.Ok w' := ⟨h.n, h.v, h.r.below b, h.t⟩
theorem Gp.Ok.up {w w' : World} {x : Gp} (h : x.Ok w) (b : Below w.heap.size w w') : x.Ok w' := ⟨h.s, h.b, h.r.below b, h.t, h.p.below b, fun y hy => (h.o y hy).up b⟩
theorem Qw.Ok.up {w w' : World} {q : Qw} (h : q.Ok w) (b : Below w.heap.size w w') : q.Ok w' := ⟨h.f, h.e, h.t.up b, h.i, h.g, h.s.below b, fun x hx => ⟨(h.z x hx).1.below b, (h.z x hx).2⟩, h.a.below b, h.b, h.c, h.r⟩
theorem Mm.Ok.up {w w' : World} {m : Mm} (h : m.Ok w) (b : Below w.heap.size w w') : m.Ok w' :=
  ⟨h.kind, h.frm, h.to, h.id, h.ask, h.off, h.term, h.cnt, h.code, h.ft, h.fd.below b, h.fdt, h.fm.below b, h.fmz, h.q.up b, h.ps, h.pF, h.pT, h.os, h.on, h.s.below b, h.si, h.g.below b, fun x hx => (h.go x hx).up b⟩
/-- What Put answers. -/
def Puts (w : World) (r : Option Bs) (e : Ending) (w' : World) : Prop := Below w.heap.size w w' ∧ ((r = none ∧ e = .returned (.tuple #[.slice none 0 0, .int .i64 1])) ∨ ∃ b v, r = some b ∧ e = .returned (.tuple #[v, .int .i64 0]) ∧ Owns w' w.heap.size v b)
end Go.Proofs.Ytpdlioidiobbbaa
