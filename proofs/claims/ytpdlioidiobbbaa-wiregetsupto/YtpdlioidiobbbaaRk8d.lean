/- Where the reference's reader is. -/
import Derived.Test.YtpdlioidiobbbaaRk8
namespace Go.Proofs.Ytpdlioidiobbbaa
open Go.RowKit Go.Sort

theorem kg0_ps {B K : Nat} {v : Value} {l : Bs} {mb : Nat} {V w : World} (hs : KG0 B K v l mb V w) : RP B K v l w (D0 l (0, 0)).1 (D0 l (0, 0)).2 ∧ w.there mb 0 41 ∧ V.heap.size ≤ w.heap.size := by
  obtain ⟨nl11, nl39, A⟩ := hs
  exact ⟨A.ps, A.th, A.size⟩
theorem kg1_ps {B K : Nat} {v : Value} {l : Bs} {mb : Nat} {V w : World} (hs : KG1 B K v l mb V w) : RP B K v l w (D1 l (0, 0)).1 (D1 l (0, 0)).2 ∧ w.there mb 0 41 ∧ V.heap.size ≤ w.heap.size := by
  obtain ⟨KI, ⟨rg1, pr1⟩, nl11, nl39, A⟩ := hs
  exact ⟨A.ps, A.th, A.size⟩
theorem kg2_ps {B K : Nat} {v : Value} {l : Bs} {mb : Nat} {V w : World} (hs : KG2 B K v l mb V w) : RP B K v l w (D2 l (0, 0)).1 (D2 l (0, 0)).2 ∧ w.there mb 0 41 ∧ V.heap.size ≤ w.heap.size := by
  obtain ⟨KI, FR, ⟨rg1, pr1⟩, ⟨rg2, pr2⟩, nl11, nl39, A⟩ := hs
  exact ⟨A.ps, A.th, A.size⟩
theorem kg3_ps {B K : Nat} {v : Value} {l : Bs} {mb : Nat} {V w : World} (hs : KG3 B K v l mb V w) : RP B K v l w (D3 l (0, 0)).1 (D3 l (0, 0)).2 ∧ w.there mb 0 41 ∧ V.heap.size ≤ w.heap.size := by
  obtain ⟨KI, FR, TO, ⟨rg1, pr1⟩, ⟨rg2, pr2⟩, ⟨rg3, pr3⟩, nl11, nl39, A⟩ := hs
  exact ⟨A.ps, A.th, A.size⟩
theorem kg4_ps {B K : Nat} {v : Value} {l : Bs} {mb : Nat} {V w : World} (hs : KG4 B K v l mb V w) : RP B K v l w (D4 l (0, 0)).1 (D4 l (0, 0)).2 ∧ w.there mb 0 41 ∧ V.heap.size ≤ w.heap.size := by
  obtain ⟨KI, FR, TO, ID, ⟨rg1, pr1⟩, ⟨rg2, pr2⟩, ⟨rg3, pr3⟩, ⟨rg4, pr4⟩, nl11, nl39, A⟩ := hs
  exact ⟨A.ps, A.th, A.size⟩
theorem kg5_ps {B K : Nat} {v : Value} {l : Bs} {mb : Nat} {V w : World} (hs : KG5 B K v l mb V w) : RP B K v l w (D5 l (0, 0)).1 (D5 l (0, 0)).2 ∧ w.there mb 0 41 ∧ V.heap.size ≤ w.heap.size := by
  obtain ⟨KI, FR, TO, ID, AS, ⟨rg1, pr1⟩, ⟨rg2, pr2⟩, ⟨rg3, pr3⟩, ⟨rg4, pr4⟩, ⟨rg5, pr5⟩, nl11, nl39, A⟩ := hs
  exact ⟨A.ps, A.th, A.size⟩
theorem kg6_ps {B K : Nat} {v : Value} {l : Bs} {mb : Nat} {V w : World} (hs : KG6 B K v l mb V w) : RP B K v l w (D6 l (0, 0)).1 (D6 l (0, 0)).2 ∧ w.there mb 0 41 ∧ V.heap.size ≤ w.heap.size := by
  obtain ⟨KI, FR, TO, ID, AS, OF, ⟨rg1, pr1⟩, ⟨rg2, pr2⟩, ⟨rg3, pr3⟩, ⟨rg4, pr4⟩, ⟨rg5, pr5⟩, ⟨rg6, pr6⟩, nl11, nl39, A⟩ := hs
  exact ⟨A.ps, A.th, A.size⟩
theorem kg7_ps {B K : Nat} {v : Value} {l : Bs} {mb : Nat} {V w : World} (hs : KG7 B K v l mb V w) : RP B K v l w (D7 l (0, 0)).1 (D7 l (0, 0)).2 ∧ w.there mb 0 41 ∧ V.heap.size ≤ w.heap.size := by
  obtain ⟨KI, FR, TO, ID, AS, OF, TE, ⟨rg1, pr1⟩, ⟨rg2, pr2⟩, ⟨rg3, pr3⟩, ⟨rg4, pr4⟩, ⟨rg5, pr5⟩, ⟨rg6, pr6⟩, ⟨rg7, pr7⟩, nl11, nl39, A⟩ := hs
  exact ⟨A.ps, A.th, A.size⟩
theorem kg8_ps {B K : Nat} {v : Value} {l : Bs} {mb : Nat} {V w : World} (hs : KG8 B K v l mb V w) : RP B K v l w (D8 l (0, 0)).1 (D8 l (0, 0)).2 ∧ w.there mb 0 41 ∧ V.heap.size ≤ w.heap.size := by
  obtain ⟨KI, FR, TO, ID, AS, OF, TE, CN, ⟨rg1, pr1⟩, ⟨rg2, pr2⟩, ⟨rg3, pr3⟩, ⟨rg4, pr4⟩, ⟨rg5, pr5⟩, ⟨rg6, pr6⟩, ⟨rg7, pr7⟩, ⟨rg8, pr8⟩, nl11, nl39, A⟩ := hs
  exact ⟨A.ps, A.th, A.size⟩
theorem kg9_ps {B K : Nat} {v : Value} {l : Bs} {mb : Nat} {V w : World} (hs : KG9 B K v l mb V w) : RP B K v l w (D9 l (0, 0)).1 (D9 l (0, 0)).2 ∧ w.there mb 0 41 ∧ V.heap.size ≤ w.heap.size := by
  obtain ⟨KI, FR, TO, ID, AS, OF, TE, CN, CO, ⟨rg1, pr1⟩, ⟨rg2, pr2⟩, ⟨rg3, pr3⟩, ⟨rg4, pr4⟩, ⟨rg5, pr5⟩, ⟨rg6, pr6⟩, ⟨rg7, pr7⟩, ⟨rg8, pr8⟩, ⟨rg9, pr9⟩, nl11, nl39, A⟩ := hs
  exact ⟨A.ps, A.th, A.size⟩
theorem kg10_ps {B K : Nat} {v : Value} {l : Bs} {mb : Nat} {V w : World} (hs : KG10 B K v l mb V w) : RP B K v l w (D10 l (0, 0)).1 (D10 l (0, 0)).2 ∧ w.there mb 0 41 ∧ V.heap.size ≤ w.heap.size := by
  obtain ⟨KI, FR, TO, ID, AS, OF, TE, CN, CO, FT, ⟨rg1, pr1⟩, ⟨rg2, pr2⟩, ⟨rg3, pr3⟩, ⟨rg4, pr4⟩, ⟨rg5, pr5⟩, ⟨rg6, pr6⟩, ⟨rg7, pr7⟩, ⟨rg8, pr8⟩, ⟨rg9, pr9⟩, ⟨rg10, pr10⟩, nl11, nl39, A⟩ := hs
  exact ⟨A.ps, A.th, A.size⟩
theorem kg11_ps {B K : Nat} {v : Value} {l : Bs} {mb : Nat} {V w : World} (hs : KG11 B K v l mb V w) : RP B K v l w (D11 l (0, 0)).1 (D11 l (0, 0)).2 ∧ w.there mb 0 41 ∧ V.heap.size ≤ w.heap.size := by
  obtain ⟨KI, FR, TO, ID, AS, OF, TE, CN, CO, FT, fa, fn, fc, ts, ⟨rg1, pr1⟩, ⟨rg2, pr2⟩, ⟨rg3, pr3⟩, ⟨rg4, pr4⟩, ⟨rg5, pr5⟩, ⟨rg6, pr6⟩, ⟨rg7, pr7⟩, ⟨rg8, pr8⟩, ⟨rg9, pr9⟩, ⟨rg10, pr10⟩, ⟨rg11, pr11, wn11⟩, nl11, nl39, A⟩ := hs
  exact ⟨A.ps, A.th, A.size⟩
theorem kg12_ps {B K : Nat} {v : Value} {l : Bs} {mb : Nat} {V w : World} (hs : KG12 B K v l mb V w) : RP B K v l w (D12 l (0, 0)).1 (D12 l (0, 0)).2 ∧ w.there mb 0 41 ∧ V.heap.size ≤ w.heap.size := by
  obtain ⟨KI, FR, TO, ID, AS, OF, TE, CN, CO, FT, fa, fn, fc, ts, ga, gn, gc, ms, ⟨rg1, pr1⟩, ⟨rg2, pr2⟩, ⟨rg3, pr3⟩, ⟨rg4, pr4⟩, ⟨rg5, pr5⟩, ⟨rg6, pr6⟩, ⟨rg7, pr7⟩, ⟨rg8, pr8⟩, ⟨rg9, pr9⟩, ⟨rg10, pr10⟩, ⟨rg11, pr11, wn11⟩, ⟨rg12, pr12, wn12⟩, nl39, A⟩ := hs
  exact ⟨A.ps, A.th, A.size⟩
theorem kg13_ps {B K : Nat} {v : Value} {l : Bs} {mb : Nat} {V w : World} (hs : KG13 B K v l mb V w) : RP B K v l w (D13 l (0, 0)).1 (D13 l (0, 0)).2 ∧ w.there mb 0 41 ∧ V.heap.size ≤ w.heap.size := by
  obtain ⟨KI, FR, TO, ID, AS, OF, TE, CN, CO, FT, fa, fn, fc, ts, ga, gn, gc, ms, q, qa, qn, qc, ra, rn, rc, sa, sn, sc, va, vn, vc, ⟨rg1, pr1⟩, ⟨rg2, pr2⟩, ⟨rg3, pr3⟩, ⟨rg4, pr4⟩, ⟨rg5, pr5⟩, ⟨rg6, pr6⟩, ⟨rg7, pr7⟩, ⟨rg8, pr8⟩, ⟨rg9, pr9⟩, ⟨rg10, pr10⟩, ⟨rg11, pr11, wn11⟩, ⟨rg12, pr12, wn12⟩, ⟨rg13, pr13, wn13⟩, nl39, A⟩ := hs
  exact ⟨A.ps, A.th, A.size⟩
theorem kg14_ps {B K : Nat} {v : Value} {l : Bs} {mb : Nat} {V w : World} (hs : KG14 B K v l mb V w) : RP B K v l w (D14 l (0, 0)).1 (D14 l (0, 0)).2 ∧ w.there mb 0 41 ∧ V.heap.size ≤ w.heap.size := by
  obtain ⟨KI, FR, TO, ID, AS, OF, TE, CN, CO, FT, fa, fn, fc, ts, ga, gn, gc, ms, q, qa, qn, qc, ra, rn, rc, sa, sn, sc, va, vn, vc, y, ⟨rg1, pr1⟩, ⟨rg2, pr2⟩, ⟨rg3, pr3⟩, ⟨rg4, pr4⟩, ⟨rg5, pr5⟩, ⟨rg6, pr6⟩, ⟨rg7, pr7⟩, ⟨rg8, pr8⟩, ⟨rg9, pr9⟩, ⟨rg10, pr10⟩, ⟨rg11, pr11, wn11⟩, ⟨rg12, pr12, wn12⟩, ⟨rg13, pr13, wn13⟩, ⟨rg14, pr14⟩, nl39, A⟩ := hs
  exact ⟨A.ps, A.th, A.size⟩
theorem kg15_ps {B K : Nat} {v : Value} {l : Bs} {mb : Nat} {V w : World} (hs : KG15 B K v l mb V w) : RP B K v l w (D15 l (0, 0)).1 (D15 l (0, 0)).2 ∧ w.there mb 0 41 ∧ V.heap.size ≤ w.heap.size := by
  obtain ⟨KI, FR, TO, ID, AS, OF, TE, CN, CO, FT, fa, fn, fc, ts, ga, gn, gc, ms, q, qa, qn, qc, ra, rn, rc, sa, sn, sc, va, vn, vc, y, F, T, ⟨rg1, pr1⟩, ⟨rg2, pr2⟩, ⟨rg3, pr3⟩, ⟨rg4, pr4⟩, ⟨rg5, pr5⟩, ⟨rg6, pr6⟩, ⟨rg7, pr7⟩, ⟨rg8, pr8⟩, ⟨rg9, pr9⟩, ⟨rg10, pr10⟩, ⟨rg11, pr11, wn11⟩, ⟨rg12, pr12, wn12⟩, ⟨rg13, pr13, wn13⟩, ⟨rg14, pr14⟩, ⟨rg15, pr15⟩, nl39, A⟩ := hs
  exact ⟨A.ps, A.th, A.size⟩
theorem kg16_ps {B K : Nat} {v : Value} {l : Bs} {mb : Nat} {V w : World} (hs : KG16 B K v l mb V w) : RP B K v l w (D16 l (0, 0)).1 (D16 l (0, 0)).2 ∧ w.there mb 0 41 ∧ V.heap.size ≤ w.heap.size := by
  obtain ⟨KI, FR, TO, ID, AS, OF, TE, CN, CO, FT, fa, fn, fc, ts, ga, gn, gc, ms, q, qa, qn, qc, ra, rn, rc, sa, sn, sc, va, vn, vc, y, F, T, od, ⟨rg1, pr1⟩, ⟨rg2, pr2⟩, ⟨rg3, pr3⟩, ⟨rg4, pr4⟩, ⟨rg5, pr5⟩, ⟨rg6, pr6⟩, ⟨rg7, pr7⟩, ⟨rg8, pr8⟩, ⟨rg9, pr9⟩, ⟨rg10, pr10⟩, ⟨rg11, pr11, wn11⟩, ⟨rg12, pr12, wn12⟩, ⟨rg13, pr13, wn13⟩, ⟨rg14, pr14⟩, ⟨rg15, pr15⟩, ⟨rg16, pr16⟩, nl39, A⟩ := hs
  exact ⟨A.ps, A.th, A.size⟩
theorem kg17_ps {B K : Nat} {v : Value} {l : Bs} {mb : Nat} {V w : World} (hs : KG17 B K v l mb V w) : RP B K v l w (D17 l (0, 0)).1 (D17 l (0, 0)).2 ∧ w.there mb 0 41 ∧ V.heap.size ≤ w.heap.size := by
  obtain ⟨KI, FR, TO, ID, AS, OF, TE, CN, CO, FT, fa, fn, fc, ts, ga, gn, gc, ms, q, qa, qn, qc, ra, rn, rc, sa, sn, sc, va, vn, vc, y, F, T, od, z, ⟨rg1, pr1⟩, ⟨rg2, pr2⟩, ⟨rg3, pr3⟩, ⟨rg4, pr4⟩, ⟨rg5, pr5⟩, ⟨rg6, pr6⟩, ⟨rg7, pr7⟩, ⟨rg8, pr8⟩, ⟨rg9, pr9⟩, ⟨rg10, pr10⟩, ⟨rg11, pr11, wn11⟩, ⟨rg12, pr12, wn12⟩, ⟨rg13, pr13, wn13⟩, ⟨rg14, pr14⟩, ⟨rg15, pr15⟩, ⟨rg16, pr16⟩, ⟨rg17, pr17⟩, nl39, A⟩ := hs
  exact ⟨A.ps, A.th, A.size⟩
theorem kg18_ps {B K : Nat} {v : Value} {l : Bs} {mb : Nat} {V w : World} (hs : KG18 B K v l mb V w) : RP B K v l w (D18 l (0, 0)).1 (D18 l (0, 0)).2 ∧ w.there mb 0 41 ∧ V.heap.size ≤ w.heap.size := by
  obtain ⟨KI, FR, TO, ID, AS, OF, TE, CN, CO, FT, fa, fn, fc, ts, ga, gn, gc, ms, q, qa, qn, qc, ra, rn, rc, sa, sn, sc, va, vn, vc, y, F, T, od, z, nd, ⟨rg1, pr1⟩, ⟨rg2, pr2⟩, ⟨rg3, pr3⟩, ⟨rg4, pr4⟩, ⟨rg5, pr5⟩, ⟨rg6, pr6⟩, ⟨rg7, pr7⟩, ⟨rg8, pr8⟩, ⟨rg9, pr9⟩, ⟨rg10, pr10⟩, ⟨rg11, pr11, wn11⟩, ⟨rg12, pr12, wn12⟩, ⟨rg13, pr13, wn13⟩, ⟨rg14, pr14⟩, ⟨rg15, pr15⟩, ⟨rg16, pr16⟩, ⟨rg17, pr17⟩, ⟨rg18, pr18⟩, nl39, A⟩ := hs
  exact ⟨A.ps, A.th, A.size⟩
theorem kg19_ps {B K : Nat} {v : Value} {l : Bs} {mb : Nat} {V w : World} (hs : KG19 B K v l mb V w) : RP B K v l w (D19 l (0, 0)).1 (D19 l (0, 0)).2 ∧ w.there mb 0 41 ∧ V.heap.size ≤ w.heap.size := by
  obtain ⟨KI, FR, TO, ID, AS, OF, TE, CN, CO, FT, fa, fn, fc, ts, ga, gn, gc, ms, q, qa, qn, qc, ra, rn, rc, sa, sn, sc, va, vn, vc, y, F, T, od, z, nd, ya, yn, yc, xs, ⟨rg1, pr1⟩, ⟨rg2, pr2⟩, ⟨rg3, pr3⟩, ⟨rg4, pr4⟩, ⟨rg5, pr5⟩, ⟨rg6, pr6⟩, ⟨rg7, pr7⟩, ⟨rg8, pr8⟩, ⟨rg9, pr9⟩, ⟨rg10, pr10⟩, ⟨rg11, pr11, wn11⟩, ⟨rg12, pr12, wn12⟩, ⟨rg13, pr13, wn13⟩, ⟨rg14, pr14⟩, ⟨rg15, pr15⟩, ⟨rg16, pr16⟩, ⟨rg17, pr17⟩, ⟨rg18, pr18⟩, ⟨rg19, pr19, wn19⟩, A⟩ := hs
  exact ⟨A.ps, A.th, A.size⟩
theorem kg11_nil {B K : Nat} {v : Value} {l : Bs} {mb : Nat} {V w : World} (hs : KG11 B K v l mb V w) : w.rangeAt mb 11 [.slice none 0 0] := by
  obtain ⟨KI, FR, TO, ID, AS, OF, TE, CN, CO, FT, fa, fn, fc, ts, ⟨rg1, pr1⟩, ⟨rg2, pr2⟩, ⟨rg3, pr3⟩, ⟨rg4, pr4⟩, ⟨rg5, pr5⟩, ⟨rg6, pr6⟩, ⟨rg7, pr7⟩, ⟨rg8, pr8⟩, ⟨rg9, pr9⟩, ⟨rg10, pr10⟩, ⟨rg11, pr11, wn11⟩, nl11, nl39, A⟩ := hs
  exact nl11
theorem kg18_nil {B K : Nat} {v : Value} {l : Bs} {mb : Nat} {V w : World} (hs : KG18 B K v l mb V w) : w.rangeAt mb 39 [.slice none 0 0] := by
  obtain ⟨KI, FR, TO, ID, AS, OF, TE, CN, CO, FT, fa, fn, fc, ts, ga, gn, gc, ms, q, qa, qn, qc, ra, rn, rc, sa, sn, sc, va, vn, vc, y, F, T, od, z, nd, ⟨rg1, pr1⟩, ⟨rg2, pr2⟩, ⟨rg3, pr3⟩, ⟨rg4, pr4⟩, ⟨rg5, pr5⟩, ⟨rg6, pr6⟩, ⟨rg7, pr7⟩, ⟨rg8, pr8⟩, ⟨rg9, pr9⟩, ⟨rg10, pr10⟩, ⟨rg11, pr11, wn11⟩, ⟨rg12, pr12, wn12⟩, ⟨rg13, pr13, wn13⟩, ⟨rg14, pr14⟩, ⟨rg15, pr15⟩, ⟨rg16, pr16⟩, ⟨rg17, pr17⟩, ⟨rg18, pr18⟩, nl39, A⟩ := hs
  exact nl39
end Go.Proofs.Ytpdlioidiobbbaa
