/- NetOnce's state in memory: a net, and two maps of counts. No walk stands here. -/
import Derived.Test.YtnkllgpibmofiaaNtq
import Derived.Test.YtnkllgpibmofiaaMfn
import Derived.Test.YtnkllgpibmofiaaPuO
namespace Go.Proofs.Ytnkllgpibmofiaa
open Go.RowKit Go.Maps Go.Sort
set_option linter.unusedVariables false

/-- A message's Id, as its cells tell. -/
def idm (x : Gm) : Nat := match x.2[3]? with | some (Value.int .u64 z) => z.toNat | _ => 0
/-- Its Id and its Ask are numbers. -/
def Gd (x : Gm) : Prop := x.2[3]? = some (.int .u64 (idm x : Int)) ∧ ∃ a : Int, x.2[4]? = some (.int .u64 a)
theorem gd_of {x : Gm} {p : Nat} {a : Int} (h3 : x.2[3]? = some (.int .u64 (p : Int))) (h4 : x.2[4]? = some (.int .u64 a)) : Gd x ∧ idm x = p := by
  have e : idm x = p := by unfold idm; rw [h3]; simp
  exact ⟨⟨by rw [e]; exact h3, a, h4⟩, e⟩
structure OSZ (w0 w : World) (n ms mc i : Nat) (F : Nat → Prop) (S : Nat) (v : Value) (Z : List Gm) (sf cf : Nat → Int) (ks kc : Nat) (Ds Dc : DataW Unit) : Prop where
  nt : NtZ w n F S v Z
  gd : ∀ x ∈ Z, Gd x
  os : OwM w ms ks Ds
  fs : MFn Ds sf
  mt : MTo Ds S
  oc : OwM w mc kc Dc
  fc : MFn Dc cf
  iv : OInv S i (Z.map idm) sf cf
  kb : ks ≤ i ∧ kc ≤ i
  ns : ¬ F ms
  nc : ¬ F mc
  sc : ms ≠ mc
  nf : ∀ j, F j → w0.heap.size ≤ j
  ls : w0.heap.size ≤ ms ∧ w0.heap.size ≤ mc
  bl : Below w0.heap.size w0 w
structure OS (w0 w : World) (n ms mc i : Nat) : Prop where
  ex : ∃ F S v Z sf cf ks kc Ds Dc, OSZ w0 w n ms mc i F S v Z sf cf ks kc Ds Dc
theorem OSZ.below {w0 w w' : World} {n ms mc i : Nat} {F : Nat → Prop} {S : Nat} {v : Value} {Z : List Gm} {sf cf : Nat → Int} {ks kc : Nat} {Ds Dc : DataW Unit} (h : OSZ w0 w n ms mc i F S v Z sf cf ks kc Ds Dc) (hb : Below w.heap.size w w') : OSZ w0 w' n ms mc i F S v Z sf cf ks kc Ds Dc :=
  ⟨h.nt.below hb, h.gd, map_frame h.os (hb.block _ h.os.lt), h.fs, h.mt, map_frame h.oc (hb.block _ h.oc.lt), h.fc, h.iv, h.kb, h.ns, h.nc, h.sc, h.nf, h.ls, h.bl.trans (hb.mono h.bl.size)⟩
/-- The net has changed: a call of it. -/
theorem OSZ.net {w0 w w' : World} {n ms mc i : Nat} {F F' : Nat → Prop} {S : Nat} {v v' : Value} {Z Z' : List Gm} {sf cf : Nat → Int} {ks kc : Nat} {Ds Dc : DataW Unit} (h : OSZ w0 w n ms mc i F S v Z sf cf ks kc Ds Dc) (hf : Fr F w w') (hF : ∀ j, F' j → F j ∨ w.heap.size ≤ j) :
    OwM w' ms ks Ds ∧ OwM w' mc kc Dc ∧ ¬ F' ms ∧ ¬ F' mc ∧ (∀ j, F' j → w0.heap.size ≤ j) ∧ Below w0.heap.size w0 w' := by
  have l1 := h.os.lt
  have l2 := h.oc.lt
  have q := h.bl.size
  refine ⟨map_frame h.os (hf.block _ l1 h.ns), map_frame h.oc (hf.block _ l2 h.nc), fun hj => ?_, fun hj => ?_, fun j hj => ?_, ?_⟩
  · rcases hF _ hj with a | a
    · exact h.ns a
    · omega
  · rcases hF _ hj with a | a
    · exact h.nc a
    · omega
  · rcases hF _ hj with a | a
    · exact h.nf j a
    · omega
  · have f1 : Fr (fun j => w0.heap.size ≤ j) w0 w' := (Fr.of_below h.bl).trans hf fun j _ hj => h.nf j hj
    exact f1.below (Nat.le_refl _) fun j hj => hj
/-- A map has changed. -/
theorem OSZ.turn {w0 w w' : World} {n ms mc i m : Nat} {F : Nat → Prop} {S : Nat} {v : Value} {Z : List Gm} {sf cf : Nat → Int} {ks kc : Nat} {Ds Dc : DataW Unit} (h : OSZ w0 w n ms mc i F S v Z sf cf ks kc Ds Dc) (hm : m = ms ∨ m = mc) (ht : w.mapTurned w' m) :
    NtZ w' n F S v Z ∧ Below w0.heap.size w0 w' ∧ (m ≠ ms → OwM w' ms ks Ds) ∧ (m ≠ mc → OwM w' mc kc Dc) := by
  have hg := ht.grown
  have hne : ∀ j, F j → some j ≠ some m := fun j hj e => by
    injection e with e
    subst e
    rcases hm with rfl | rfl
    · exact h.ns hj
    · exact h.nc hj
  refine ⟨h.nt.frame hg.size fun j hj => hg.block j (h.nt.lt j hj) (hne j hj), ?_, fun hn => map_frame h.os (hg.block _ h.os.lt (fun e => hn (by injection e with e; exact e.symm))), fun hn => map_frame h.oc (hg.block _ h.oc.lt (fun e => hn (by injection e with e; exact e.symm)))⟩
  have f1 : Fr (fun j => w0.heap.size ≤ j) w0 w' := (Fr.of_below h.bl).trans (Fr.of_grown (F := fun j => j = m) hg fun j hj => .inl (by injection hj with hj; exact hj.symm)) fun j _ hj => by
    rw [hj]
    rcases hm with rfl | rfl
    · exact h.ls.1
    · exact h.ls.2
  exact f1.below (Nat.le_refl _) fun j hj => hj
end Go.Proofs.Ytnkllgpibmofiaa
