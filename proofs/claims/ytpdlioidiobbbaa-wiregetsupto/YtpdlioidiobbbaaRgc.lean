/- What Get has at its end. -/
import Derived.Test.YtpdlioidiobbbaaRga
namespace Go.Proofs.Ytpdlioidiobbbaa
open Go.RowKit Go.Sort

theorem Try.msg_info : (Try.prog.info? 46).map (·.size) = some 41 := by kernel_rfl
def zmsg : Array Value := #[.int .i64 0, .int .i64 0, .int .i64 0, .int .u64 0, .int .u64 0, .int .u64 0, .int .i64 0, .int .u64 0, .int .i64 0, .int .i64 0, .slice none 0 0, .slice none 0 0, .int .i64 0, .int .i64 0, .int .i64 0, .int .i64 0, .slice none 0 0, .int .i64 0, .int .i64 0, .slice none 0 0, .int .i64 0, .slice none 0 0, .slice none 0 0, .int .i64 0, .int .i64 0, .int .i64 0, .int .i64 0, .int .i64 0, .int .i64 0, .int .i64 0, .int .i64 0, .int .i64 0, .bool false, .int .i64 0, .int .i64 0, .int .i64 0, .int .i64 0, .int .i64 0, .int .i64 0, .slice none 0 0, .slice none 0 0]
theorem zmsg_all : zmsg.all (·.oneCell') = true := by kernel_rfl
/-- The cells of a message that was read. -/
def c41 (KI FR TO : Int) (ID AS OF : Nat) (TE : Int) (CN : Nat) (CO : Int) (FT : Int) (fa : Option Addr) (fn fc : Nat) (ga : Option Addr) (gn gc : Nat) (q : Qw) (qa : Option Addr) (qn qc : Nat) (ra : Option Addr) (rn rc : Nat) (sa : Option Addr) (sn sc : Nat) (va : Option Addr) (vn vc : Nat) (y : Sg) (F T : Int) (od : Bool) (z : Sg) (nd : Int) (ya : Option Addr) (yn yc : Nat) (xa : Option Addr) (xn xc : Nat) : List Value := (((((((((([.int .i64 KI, .int .i64 FR, .int .i64 TO] ++ [.int .u64 (ID : Int), .int .u64 (AS : Int), .int .u64 (OF : Int)]) ++ [.int .i64 TE]) ++ [.int .u64 (CN : Int)]) ++ [.int .i64 CO]) ++ [.int .i64 FT, .slice fa fn fc, .slice ga gn gc]) ++ [.int .i64 q.F, .int .i64 q.T, .int .i64 q.t.k, .int .i64 q.t.d, .slice qa qn qc, .int .i64 q.t.lo, .int .i64 q.t.hi, .slice ra rn rc, .int .i64 q.g, .slice sa sn sc, .slice va vn vc, .int .i64 q.G, .int .i64 q.R]) ++ [.int .i64 y.F, .int .i64 y.T, .int .i64 y.V, .int .i64 y.P, .int .i64 y.C, .int .i64 F, .int .i64 T]) ++ [.bool od, .int .i64 z.F, .int .i64 z.T, .int .i64 z.V, .int .i64 z.P, .int .i64 z.C, .int .i64 nd]) ++ [.slice ya yn yc]) ++ [.slice xa xn xc])
theorem c41_all (KI FR TO : Int) (ID AS OF : Nat) (TE : Int) (CN : Nat) (CO : Int) (FT : Int) (fa : Option Addr) (fn fc : Nat) (ga : Option Addr) (gn gc : Nat) (q : Qw) (qa : Option Addr) (qn qc : Nat) (ra : Option Addr) (rn rc : Nat) (sa : Option Addr) (sn sc : Nat) (va : Option Addr) (vn vc : Nat) (y : Sg) (F T : Int) (od : Bool) (z : Sg) (nd : Int) (ya : Option Addr) (yn yc : Nat) (xa : Option Addr) (xn xc : Nat) : (c41 KI FR TO ID AS OF TE CN CO FT fa fn fc ga gn gc q qa qn qc ra rn rc sa sn sc va vn vc y F T od z nd ya yn yc xa xn xc).toArray.all (·.oneCell') = true := by kernel_rfl
theorem range41 {w : World} {b : Nat} {KI FR TO : Int} {ID AS OF : Nat} {TE : Int} {CN : Nat} {CO : Int} {FT : Int} {fa : Option Addr} {fn fc : Nat} {ga : Option Addr} {gn gc : Nat} {q : Qw} {qa : Option Addr} {qn qc : Nat} {ra : Option Addr} {rn rc : Nat} {sa : Option Addr} {sn sc : Nat} {va : Option Addr} {vn vc : Nat} {y : Sg} {F T : Int} {od : Bool} {z : Sg} {nd : Int} {ya : Option Addr} {yn yc : Nat} {xa : Option Addr} {xn xc : Nat} (rg1 : w.rangeAt b 0 [.int .i64 KI, .int .i64 FR, .int .i64 TO]) (rg2 : w.rangeAt b 3 [.int .u64 (ID : Int), .int .u64 (AS : Int), .int .u64 (OF : Int)]) (rg3 : w.rangeAt b 6 [.int .i64 TE]) (rg4 : w.rangeAt b 7 [.int .u64 (CN : Int)]) (rg5 : w.rangeAt b 8 [.int .i64 CO]) (rg6 : w.rangeAt b 9 [.int .i64 FT, .slice fa fn fc, .slice ga gn gc]) (rg7 : w.rangeAt b 12 [.int .i64 q.F, .int .i64 q.T, .int .i64 q.t.k, .int .i64 q.t.d, .slice qa qn qc, .int .i64 q.t.lo, .int .i64 q.t.hi, .slice ra rn rc, .int .i64 q.g, .slice sa sn sc, .slice va vn vc, .int .i64 q.G, .int .i64 q.R]) (rg8 : w.rangeAt b 25 [.int .i64 y.F, .int .i64 y.T, .int .i64 y.V, .int .i64 y.P, .int .i64 y.C, .int .i64 F, .int .i64 T]) (rg9 : w.rangeAt b 32 [.bool od, .int .i64 z.F, .int .i64 z.T, .int .i64 z.V, .int .i64 z.P, .int .i64 z.C, .int .i64 nd]) (rg10 : w.rangeAt b 39 [.slice ya yn yc]) (rg11 : w.rangeAt b 40 [.slice xa xn xc]) : w.rangeAt b 0 (c41 KI FR TO ID AS OF TE CN CO FT fa fn fc ga gn gc q qa qn qc ra rn rc sa sn sc va vn vc y F T od z nd ya yn yc xa xn xc) := (range_app (range_app (range_app (range_app (range_app (range_app (range_app (range_app (range_app (range_app rg1 rg2) rg3) rg4) rg5) rg6) rg7) rg8) rg9) rg10) rg11)
/-- What is there behind all parts: a message, and its cells. -/
structure Fin (B R : Nat) (l : Bs) (mb : Nat) (V w : World) (m : Mm) (C : List Value) : Prop where
  rg : w.rangeAt mb 0 C
  len : C.length = 41
  all : C.toArray.all (·.oneCell') = true
  eq : C.toArray = mcells m
  ok : Win V.heap.size w (fun w => m.Ok w)
  by' : (F11 l (0, 0)).2 = 0 → r_msg m = rd l 0 (F11 l (0, 0)).1
  ps : PS B w R l (F11 l (0, 0)).1 (F11 l (0, 0)).2
  bel : ∀ n, n ≤ R → n ≤ mb → n ≤ V.heap.size → Below n V w
theorem c41_len (KI FR TO : Int) (ID AS OF : Nat) (TE : Int) (CN : Nat) (CO : Int) (FT : Int) (fa : Option Addr) (fn fc : Nat) (ga : Option Addr) (gn gc : Nat) (q : Qw) (qa : Option Addr) (qn qc : Nat) (ra : Option Addr) (rn rc : Nat) (sa : Option Addr) (sn sc : Nat) (va : Option Addr) (vn vc : Nat) (y : Sg) (F T : Int) (od : Bool) (z : Sg) (nd : Int) (ya : Option Addr) (yn yc : Nat) (xa : Option Addr) (xn xc : Nat) : (c41 KI FR TO ID AS OF TE CN CO FT fa fn fc ga gn gc q qa qn qc ra rn rc sa sn sc va vn vc y F T od z nd ya yn yc xa xn xc).length = 41 := by kernel_rfl
theorem c41_eq (KI FR TO : Int) (ID AS OF : Nat) (TE : Int) (CN : Nat) (CO : Int) (FT : Int) (fa : Option Addr) (fn fc : Nat) (ga : Option Addr) (gn gc : Nat) (q : Qw) (qa : Option Addr) (qn qc : Nat) (ra : Option Addr) (rn rc : Nat) (sa : Option Addr) (sn sc : Nat) (va : Option Addr) (vn vc : Nat) (y : Sg) (F T : Int) (od : Bool) (z : Sg) (nd : Int) (ya : Option Addr) (yn yc : Nat) (xa : Option Addr) (xn xc : Nat) (ts : List Fi.Str) (ms : List Int) (xs : List Sg) (gs : List Gp) (e1 : q.t.tv = .slice qa qn qc) (e2 : q.t.kv = .slice ra rn rc) (e3 : q.sv = .slice sa sn sc) (e4 : q.av = .slice va vn vc) : (c41 KI FR TO ID AS OF TE CN CO FT fa fn fc ga gn gc q qa qn qc ra rn rc sa sn sc va vn vc y F T od z nd ya yn yc xa xn xc).toArray = mcells ⟨KI, FR, TO, ID, AS, OF, TE, CN, CO, FT, .slice fa fn fc, ts, .slice ga gn gc, ms, q, y, F, T, od, z, nd, .slice ya yn yc, xs, .slice xa xn xc, gs⟩ := by
  unfold mcells c41
  simp only [e1, e2, e3, e4, List.cons_append, List.nil_append]
theorem gs11_fin {B R : Nat} {l : Bs} {mb : Nat} {V w : World} (h : GS11 B R l mb V w) : ∃ m C, Fin B R l mb V w m C := by
  obtain ⟨KI, FR, TO, ID, AS, OF, TE, CN, CO, FT, fa, fn, fc, ts, ga, gn, gc, ms, q, qa, qn, qc, ra, rn, rc, sa, sn, sc, va, vn, vc, y, F, T, od, z, nd, ya, yn, yc, xs, xa, xn, xc, gs, ⟨rg1, pr1⟩, ⟨rg2, pr2⟩, ⟨rg3, pr3⟩, ⟨rg4, pr4⟩, ⟨rg5, pr5⟩, ⟨rg6, pr6, wn6⟩, ⟨rg7, pr7, wn7⟩, ⟨rg8, pr8⟩, ⟨rg9, pr9⟩, ⟨rg10, pr10, wn10⟩, ⟨rg11, pr11, wn11⟩, A⟩ := h
  refine ⟨⟨KI, FR, TO, ID, AS, OF, TE, CN, CO, FT, .slice fa fn fc, ts, .slice ga gn gc, ms, q, y, F, T, od, z, nd, .slice ya yn yc, xs, .slice xa xn xc, gs⟩, (c41 KI FR TO ID AS OF TE CN CO FT fa fn fc ga gn gc q qa qn qc ra rn rc sa sn sc va vn vc y F T od z nd ya yn yc xa xn xc), ?_, c41_len .., c41_all .., ?_, ?_, ?_, A.ps, ?_⟩
  · exact range41 rg1 rg2 rg3 rg4 rg5 rg6 rg7 rg8 rg9 rg10 rg11
  · obtain ⟨e1, e2, e3, e4⟩ := pr7
    exact c41_eq (e1 := e1) (e2 := e2) (e3 := e3) (e4 := e4) ..
  · refine (((wn6.both wn7).both (wn10.both wn11))).imp fun w r => ?_
    exact ⟨pr1.1, pr1.2.1, pr1.2.2, pr2.1, pr2.2.1, pr2.2.2, pr3, pr4, pr5, pr6.1, r.1.1.1, txs_of pr6.2.1, r.1.1.2, pr6.2.2, r.1.2, pr8.1, pr8.2.1, pr8.2.2, pr9.1, pr9.2, r.2.1, pr10, r.2.2.1, r.2.2.2⟩
  · intro he
    have e := A.b he
    refine Eq.trans ?_ e
    simp only [r_msg, List.append_assoc]
  · exact fun n h1 h2 h3 => ⟨A.os, A.tape, A.output, A.size, fun k hk => A.block k (by omega) (by omega) (by omega)⟩
end Go.Proofs.Ytpdlioidiobbbaa
