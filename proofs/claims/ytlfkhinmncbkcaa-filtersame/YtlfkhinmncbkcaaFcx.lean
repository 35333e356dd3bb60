/- Facts as they lie in memory; filters whose texts are not too many; filters without their values. No walk stands here. -/
import Derived.Test.YtlfkhinmncbkcaaChk
namespace Go.Proofs.Ytlfkhinmncbkcaa
open Go.RowKit Go.Sort

/-- A fact as it lies in memory: its time, the values of its two slices, and what these read as. -/
structure Fc where
  t : Int
  dv : Value
  mv : Value
  ds : List Str
  ms : List Int
def Fc.cells (f : Fc) : List Value := [.int .i64 f.t, f.dv, f.mv]
structure Fc.Ok (w : World) (f : Fc) : Prop where
  rd : Rds w f.dv (sv f.ds)
  rm : Rds w f.mv (iv f.ms)
theorem Fc.Ok.up {w w' : World} {f : Fc} (h : f.Ok w) (hb : Below w.heap.size w w') : f.Ok w' := ⟨h.rd.below hb, h.rm.below hb⟩
theorem Fc.Ok.lens {w : World} {f : Fc} (h : f.Ok w) : ∃ ad nd cd am nm cm, f.dv = .slice ad nd cd ∧ f.mv = .slice am nm cm ∧ nd = f.ds.length ∧ nm = f.ms.length ∧ nd ≤ cd ∧ cd ≤ maxLen ∧ nm ≤ cm ∧ cm ≤ maxLen ∧
    (0 < f.ds.length → ∃ b off, ad = some ⟨b, off, none⟩ ∧ ∀ i, i < f.ds.length → w.cell? ⟨b, off + i, none⟩ = some (.string ⟨(f.ds.getD i []).toArray⟩)) ∧
    (0 < f.ms.length → ∃ b off, am = some ⟨b, off, none⟩ ∧ ∀ i, i < f.ms.length → w.cell? ⟨b, off + i, none⟩ = some (.int .i64 (f.ms.getD i 0))) := by
  obtain ⟨ad, nd, cd, e1⟩ := h.rd.sl
  obtain ⟨am, nm, cm, e2⟩ := h.rm.sl
  have k1 := h.rd
  have k2 := h.rm
  rw [e1] at k1
  rw [e2] at k2
  obtain ⟨a1, a2, a3, a4⟩ := k1.cells
  obtain ⟨b1, b2, b3, b4⟩ := k2.cells
  rw [sv_length] at a1 a2 a4
  rw [iv_length] at b1 b2 b4
  refine ⟨ad, nd, cd, am, nm, cm, e1, e2, a1, b1, by omega, a3, by omega, b3, fun h0 => ?_, fun h0 => ?_⟩
  · obtain ⟨b, off, e, hc⟩ := a4 h0
    exact ⟨b, off, e, fun i hi => hc i _ (sv_get _ i hi)⟩
  · obtain ⟨b, off, e, hc⟩ := b4 h0
    exact ⟨b, off, e, fun i hi => hc i _ (iv_get _ i hi)⟩
/-- Their texts are no more than memory reaches. -/
inductive Tr.Lim : Tr → Prop
  | mk {t : Tr} (h : t.ts.length * 16 ≤ 140737488351232) (k : ∀ c ∈ t.ks, Tr.Lim c) : Tr.Lim t
theorem Tr.Lim.len {t : Tr} (h : t.Lim) : t.ts.length * 16 ≤ 140737488351232 := by cases h; assumption
theorem Tr.Lim.kid {t : Tr} (h : t.Lim) : ∀ c ∈ t.ks, c.Lim := by cases h; assumption
end Go.Proofs.Ytlfkhinmncbkcaa
