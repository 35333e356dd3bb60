/- What the texts of filter hold, over this program's numbers. -/
import Derived.Test.YtpdlioidiobbbaaFm0
namespace Go.Proofs.Ytpdlioidiobbbaa.Fi
open Go.RowKit Go.Sort Go.ChangeShapes Go.WideShapes
set_option maxRecDepth 100000

/-- A fact as it lies in memory: its time, the values of its two slices, and what these read as. -/
structure Fc where
  t : Int
  dv : Value
  mv : Value
  ds : List Str
  ms : List Int
def Fc.cells (f : Fc) : List Value := [.int .i64 f.t, f.dv, f.mv]
structure Fc.Ok (w : World) (f : Fc) : Prop where
  rd : Rds w f.dv (sv f.ds)
  rm : Rds w f.mv (iv f.ms)
theorem Fc.Ok.up {w w' : World} {f : Fc} (h : f.Ok w) (hb : Below w.heap.size w w') : f.Ok w' := ⟨h.rd.below hb, h.rm.below hb⟩
/-- Their texts are no more than memory reaches. -/
inductive Tr.Lim : Tr → Prop
  | mk {t : Tr} (h : t.ts.length * 16 ≤ 140737488351232) (k : ∀ c ∈ t.ks, Tr.Lim c) : Tr.Lim t
theorem Tr.Lim.len {t : Tr} (h : t.Lim) : t.ts.length * 16 ≤ 140737488351232 := by cases h; assumption
theorem Tr.Lim.kid {t : Tr} (h : t.Lim) : ∀ c ∈ t.ks, c.Lim := by cases h; assumption
section
variable {H : Type} {enc : TypeId × Value → H} {W : World} {fuel : Nat} {cs : List Value} {x : DataW H × List MemPlace}

theorem two {l : List Value} (h : l.length = 2) : ∃ a b, l = [a, b] := by
  match l, h with
  | [a, b], _ => exact ⟨a, b, rfl⟩
end

end Go.Proofs.Ytpdlioidiobbbaa.Fi
