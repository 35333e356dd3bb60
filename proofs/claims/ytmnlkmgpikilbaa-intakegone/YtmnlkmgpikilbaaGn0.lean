/- An intake beside a row of numbers of the law's own. -/
import Derived.Test.YtmnlkmgpikilbaaReo
import Derived.Test.YtmnlkmgpikilbaaPrA
import Derived.Test.YtmnlkmgpikilbaaGnP
namespace Go.Proofs.Ytmnlkmgpikilbaa
open Go.RowKit Go.Maps Go.Sort
set_option linter.unusedVariables false

def us (E : List Nat) : List Value := E.map fun n : Nat => .int .u64 (n : Int)
theorem us_length (E : List Nat) : (us E).length = E.length := by simp [us]
theorem us_get (E : List Nat) (i : Nat) (h : i < E.length) : (us E)[i]? = some (.int .u64 (E[i] : Int)) := by
  unfold us
  rw [List.getElem?_map, List.getElem?_eq_getElem h]
  rfl
structure StE (w0 w : World) (x : Nat) (l : Int) (sv : Value) (Z : List Kp) (o : Kp) (xe : Value) (E : List Nat) : Prop where
  ex : ∃ F, InZ w x F l sv Z o ∧ (∀ i, F i → w0.heap.size ≤ i) ∧ ∀ b, xe.ownBlock = some b → ¬ F b
  bl : Below w0.heap.size w0 w
  e : w.ownsRow w0.heap.size 24 1 xe E.length (us E)
theorem StE.of {w0 w : World} {x : Nat} {l : Int} {sv : Value} {Z : List Kp} {o : Kp} (h : St w0 w x l sv Z o) : StE w0 w x l sv Z o nl [] := by
  obtain ⟨F, h1, h2⟩ := h.ex
  exact ⟨⟨F, h1, h2, fun b hb => by cases hb⟩, h.bl, rfl, .inl ⟨rfl, rfl⟩⟩
theorem StE.st {w0 w : World} {x : Nat} {l : Int} {sv : Value} {Z : List Kp} {o : Kp} {xe : Value} {E : List Nat} (h : StE w0 w x l sv Z o xe E) : St w0 w x l sv Z o := by
  obtain ⟨F, h1, h2, h3⟩ := h.ex
  exact ⟨⟨F, h1, h2⟩, h.bl⟩
theorem StE.up {w0 w w' : World} {x : Nat} {l : Int} {sv : Value} {Z : List Kp} {o : Kp} {xe : Value} {E : List Nat} (h : StE w0 w x l sv Z o xe E) (hb : Below w.heap.size w w') : StE w0 w' x l sv Z o xe E := by
  obtain ⟨F, h1, h2, h3⟩ := h.ex
  exact ⟨⟨F, h1.up hb, h2, h3⟩, h.bl.trans (hb.mono h.bl.size), own_blk h.e fun r hr => hb.block r (World.ownsRow.lt h.e r hr).2⟩
/-- A call that changes what is the intake's, and makes new memory. -/
theorem StE.chg {w0 w w' : World} {x x' : Nat} {l l' : Int} {sv sv' : Value} {Z Z' : List Kp} {o o' : Kp} {xe : Value} {E : List Nat} {F : Nat → Prop} (h : StE w0 w x l sv Z o xe E) (h2 : ∀ i, F i → w0.heap.size ≤ i) (h3 : ∀ b, xe.ownBlock = some b → ¬ F b) (hi : InZ w' x' (Mo w w' F) l' sv' Z' o') (hf : Fr F w w') : StE w0 w' x' l' sv' Z' o' xe E := by
  refine ⟨⟨_, hi, fun i q => ?_, fun b hb q => ?_⟩, h.bl.trans (hf.below h.bl.size h2), own_blk h.e fun r hr => hf.block r (World.ownsRow.lt h.e r hr).2 (h3 r hr)⟩
  · rcases q with q | q
    · exact h2 i q
    · exact Nat.le_trans h.bl.size q.1
  · have := (World.ownsRow.lt h.e b hb).2
    rcases q with q | q
    · exact h3 b hb q
    · have := q.1
      omega
theorem StE.good {w0 w : World} {x : Nat} {l : Int} {sv : Value} {Z : List Kp} {o : Kp} {xe : Value} {E : List Nat} (h : StE w0 w x l sv Z o xe E) (hl : 1 ≤ l) (hto : o.up ≤ 1000000) (n : Nat) (hn : n = o.up + 1) (t : Int) (ht : T40 t) :
    Calls Try.prog 18 #[.pointer (some ⟨x, 0, none⟩), .int .u64 (n : Int), .agg (fc t)] w fun e w' => e = .returned (.int .i64 0) ∧ ∃ v, StE w0 w' x l sv Z { num := o.num, fr := o.fr, up := o.up + 1, v := v, ts := o.ts ++ [t] } xe E := by
  obtain ⟨F, h1, h2, h3⟩ := h.ex
  refine (take_good w x F l sv Z o h1 hl hto n hn t ht).mono ?_
  rintro e w' ⟨he, hT⟩
  obtain ⟨v, hv⟩ := hT.ex
  exact ⟨he, v, h.chg h2 h3 hv hT.fr⟩
theorem StE.sealGood {w0 w : World} {x : Nat} {l : Int} {sv : Value} {Z : List Kp} {o : Kp} {xe : Value} {E : List Nat} (h : StE w0 w x l sv Z o xe E) (hl : 1 ≤ l ∧ l ≤ 1099511627776) (hn : o.fr < o.up) (hZ : Z.length ≤ 1000000) (hup : o.up ≤ 100000) (hnum : 0 ≤ o.num ∧ o.num ≤ 1000000) :
    Calls Try.prog 20 #[.pointer (some ⟨x, 0, none⟩)] w fun e w' => ∃ v, e = .returned (.tuple #[.agg #[.int .i64 o.num, .int .u64 (o.fr : Int), .int .u64 (o.up : Int), v], .int .i64 0]) ∧ (∃ a n c, v = .slice a n c) ∧ ∃ sv', StE w0 w' x l sv' (Z ++ [o]) { num := o.num + 1, fr := o.up, up := o.up, v := nl, ts := [] } xe E := by
  obtain ⟨F, h1, h2, h3⟩ := h.ex
  refine (seal_good w x F l sv Z o h1 hl hn hZ hup hnum).mono ?_
  rintro e w' ⟨v, he, hS, hC⟩
  obtain ⟨sv', hI⟩ := hS.ex
  exact ⟨v, he, hC.sl, sv', h.chg h2 h3 hI hS.fr⟩
theorem StE.rel_ok {w0 w : World} {x : Nat} {l : Int} {sv : Value} {p : Kp} {Z : List Kp} {o : Kp} {xe : Value} {E : List Nat} (h : StE w0 w x l sv (p :: Z) o xe E) (hl : 1 ≤ l) (num : Int) (hn : num = p.num) (hlt : p.num < o.num) :
    Calls Try.prog 22 #[.pointer (some ⟨x, 0, none⟩), .int .i64 num] w fun e w' => e = .returned (.int .i64 0) ∧ ∃ sv', StE w0 w' x l sv' Z o xe E := by
  obtain ⟨F, h1, h2, h3⟩ := h.ex
  refine (release_ok w x F l sv p Z o h1 hl num hn hlt).mono ?_
  rintro e w' ⟨he, ⟨sv', hi⟩, hf⟩
  exact ⟨he, sv', ⟨F, hi, h2, h3⟩, h.bl.trans (hf.below h.bl.size h2), own_blk h.e fun r hr => hf.block r (World.ownsRow.lt h.e r hr).2 (h3 r hr)⟩
/-- The row of numbers grows. -/
theorem StE.push {w0 w w' : World} {x : Nat} {l : Int} {sv : Value} {Z : List Kp} {o : Kp} {xe xe' : Value} {E : List Nat} {n : Nat} (h : StE w0 w x l sv Z o xe E) (ho : w'.ownsRow w0.heap.size 24 1 xe' (E.length + 1) (us E ++ [.int .u64 (n : Int)])) (hg : w.grownBy w' xe.ownBlock) (hp : xe'.ownBlock = xe.ownBlock ∨ ∃ g, xe'.ownBlock = some g ∧ w.heap.size ≤ g) : StE w0 w' x l sv Z o xe' (E ++ [n]) := by
  obtain ⟨F, h1, h2, h3⟩ := h.ex
  refine ⟨⟨F, h1.frame hg.size fun i hi => hg.block i (h1.lt i hi) fun e => h3 i e.symm hi, h2, fun b hb q => ?_⟩, h.bl.trans ⟨hg.os, hg.tape, hg.output, hg.size, fun r hr => hg.block r (Nat.lt_of_lt_of_le hr h.bl.size) fun e => by have := (World.ownsRow.lt h.e r e.symm).1; omega⟩, ?_⟩
  · rcases hp with e | ⟨g, e, hg2⟩
    · exact h3 b (e ▸ hb) q
    · rw [e] at hb
      injection hb with hb
      subst hb
      have := h1.lt _ q
      omega
  · rw [List.length_append]
    have : us (E ++ [n]) = us E ++ [.int .u64 (n : Int)] := by simp [us]
    rw [this]
    exact ho
theorem litU {w : World} {g : Nat} {t : TypeId} {n : Nat} (h : BxA w g t #[.int .u64 (n : Int)]) : RdsK 1 w (.slice (some ⟨g, 0, none⟩) 1 1) 1 [.int .u64 (n : Int)] := by
  refine ⟨some ⟨g, 0, none⟩, 1, rfl, rfl, Nat.le_refl _, by decide, (fun h => by cases h), ?_⟩
  rintro ad ⟨rfl⟩ j u hj
  rw [Addr.add_lit]
  have := h.cell j u (by simpa using hj)
  simpa using this
theorem Try.info_u64I : (Try.prog.info? 24).map (fun i => (i.zero.map (·.cells.size), i.size, i.bytes)) = some (some 1, 1, 8) := by kernel_rfl
end Go.Proofs.Ytmnlkmgpikilbaa
