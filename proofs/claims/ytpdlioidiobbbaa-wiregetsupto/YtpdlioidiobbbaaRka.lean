/- What the reference's Get has at its end. -/
import Derived.Test.YtpdlioidiobbbaaRk8
import Derived.Test.YtpdlioidiobbbaaRgc
namespace Go.Proofs.Ytpdlioidiobbbaa
open Go.RowKit Go.Sort

/-- Behind all parts: a message, and its cells. -/
structure FinK (B K : Nat) (v : Value) (l : Bs) (mb : Nat) (V w : World) (m : Mm) (C : List Value) : Prop where
  rg : w.rangeAt mb 0 C
  len : C.length = 41
  all : C.toArray.all (·.oneCell') = true
  eq : C.toArray = mcells m
  ok : Win V.heap.size w (fun w => m.Ok w)
  by' : (D20 l (0, 0)).2 = 0 → r_msg m = rd l 0 (D20 l (0, 0)).1
  ps : RP B K v l w (D20 l (0, 0)).1 (D20 l (0, 0)).2
  bel : ∀ n, n ≤ K → n ≤ mb → n ≤ V.heap.size → Below n V w
theorem kg20_fin {B K : Nat} {v : Value} {l : Bs} {mb : Nat} {V w : World} (h : KG20 B K v l mb V w) : ∃ m C, FinK B K v l mb V w m C := by
  obtain ⟨KI, FR, TO, ID, AS, OF, TE, CN, CO, FT, fa, fn, fc, ts, ga, gn, gc, ms, q, qa, qn, qc, ra, rn, rc, sa, sn, sc, va, vn, vc, y, F, T, od, z, nd, ya, yn, yc, xs, xa, xn, xc, gs, ⟨rg1, pr1⟩, ⟨rg2, pr2⟩, ⟨rg3, pr3⟩, ⟨rg4, pr4⟩, ⟨rg5, pr5⟩, ⟨rg6, pr6⟩, ⟨rg7, pr7⟩, ⟨rg8, pr8⟩, ⟨rg9, pr9⟩, ⟨rg10, pr10⟩, ⟨rg11, pr11, wn11⟩, ⟨rg12, pr12, wn12⟩, ⟨rg13, pr13, wn13⟩, ⟨rg14, pr14⟩, ⟨rg15, pr15⟩, ⟨rg16, pr16⟩, ⟨rg17, pr17⟩, ⟨rg18, pr18⟩, ⟨rg19, pr19, wn19⟩, ⟨rg20, pr20, wn20⟩, A⟩ := h
  refine ⟨⟨KI, FR, TO, ID, AS, OF, TE, CN, CO, FT, .slice fa fn fc, ts, .slice ga gn gc, ms, q, y, F, T, od, z, nd, .slice ya yn yc, xs, .slice xa xn xc, gs⟩, (c41 KI FR TO ID AS OF TE CN CO FT fa fn fc ga gn gc q qa qn qc ra rn rc sa sn sc va vn vc y F T od z nd ya yn yc xa xn xc), ?_, c41_len .., c41_all .., ?_, ?_, ?_, A.ps, ?_⟩
  · exact range41 (range_app (range_app rg1 rg2) rg3) (range_app (range_app rg4 rg5) rg6) rg7 rg8 rg9 (range_app (range_app rg10 rg11) rg12) rg13 (range_app rg14 rg15) (range_app (range_app rg16 rg17) rg18) rg19 rg20
  · obtain ⟨e1, e2, e3, e4⟩ := pr13
    exact c41_eq (e1 := e1) (e2 := e2) (e3 := e3) (e4 := e4) ..
  · refine ((((wn11.win.both wn12.win).both wn13.win).both (wn19.win.both wn20.win))).imp fun w r => ?_
    exact ⟨pr1, pr2, pr3, pr4, pr5, pr6, pr7, pr8, pr9, pr10, r.1.1.1, txs_of pr11, r.1.1.2, pr12, r.1.2, pr14, pr15.1, pr15.2, pr17, pr18, r.2.1, pr19, r.2.2.1, r.2.2.2⟩
  · intro he
    have e := A.b he
    refine Eq.trans ?_ e
    simp only [r_msg, List.append_assoc]
  · exact fun n h1 h2 h3 => ⟨A.os, A.tape, A.output, A.size, fun k hk => A.block k (by omega) (by omega) (by omega)⟩
theorem Reads.b {w : World} {v : Value} {l : Bs} (h : Reads w v l) : ReadsB w.heap.size w v l := by
  refine ⟨h, fun ad n c hv hn => ?_⟩
  obtain ⟨ao, cap, hv', h1, h2, h3, h4⟩ := h
  rw [hv'] at hv
  simp only [Value.slice.injEq] at hv
  obtain ⟨rfl, rfl, rfl⟩ := hv
  have := h4 ad rfl 0 _ (bv_get l 0 hn)
  have hlt := World.block_lt_of_cell? _ _ this
  simpa [Addr.add] using hlt
end Go.Proofs.Ytpdlioidiobbbaa
