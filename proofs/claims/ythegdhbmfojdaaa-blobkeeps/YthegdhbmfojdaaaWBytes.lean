/- What is said of rows of bytes in memory: a slice value reads as a list of bytes; an owned row of bytes. No walk stands here. -/
import Derived.Test.YthegdhbmfojdaaaProg
import Derived.Test.YthegdhbmfojdaaaWMath
import Derived.WalkKit
import Derived.Below
import Derived.WalkSpells
namespace Go.Proofs.Ythegdhbmfojdaaa.Wi
open Go.RowKit

theorem hide {p : Prop} (h : p) : Hid p := h
theorem ret_int {k : IntKind} {a b : Int} (h : a = b) : Ending.returned (.int k a) = .returned (.int k b) := by rw [h]
theorem unhide {p : Prop} (h : Hid p) : p := h

/-- The cells that hold these bytes. -/
def bv (l : List UInt8) : List Value := l.map fun c => .int .u8 (c.toNat : Int)
theorem bv_length (l : List UInt8) : (bv l).length = l.length := by simp [bv]
theorem bv_append (l m : List UInt8) : bv (l ++ m) = bv l ++ bv m := by simp [bv]
theorem bv_one (l : List UInt8) : ∀ u ∈ bv l, u.oneCell' = true := by
  intro u hu; simp [bv] at hu; obtain ⟨c, _, rfl⟩ := hu; rfl
theorem bv_get (l : List UInt8) (i : Nat) (h : i < l.length) : (bv l)[i]? = some (.int .u8 ((l.getD i 0).toNat : Int)) := by
  simp [bv, h]

/-- A slice value reads as these bytes: nil and nothing, or an address from which they lie. -/
def Reads (w : World) (v : Value) (l : List UInt8) : Prop :=
  ∃ ao cap, v = .slice ao l.length cap ∧ l.length ≤ cap ∧ cap ≤ maxLen ∧ (ao = none → l.length = 0 ∧ cap = 0) ∧
    ∀ ad, ao = some ad → ∀ j u, (bv l)[j]? = some u → w.cell? (ad.add j) = some u

theorem Reads.nil (w : World) : Reads w (.slice none 0 0) [] := ⟨none, 0, rfl, Nat.le_refl _, Nat.zero_le _, fun _ => ⟨rfl, rfl⟩, fun _ h => by cases h⟩

/-- An owned row of bytes. -/
def Owns (w : World) (base : Nat) (v : Value) (l : List UInt8) : Prop := w.ownsRow base 5 1 v l.length (bv l)

theorem Owns.reads {w : World} {base : Nat} {v : Value} {l : List UInt8} (h : Owns w base v l) : Reads w v l := by
  have hc := h
  rcases h.2 with ⟨rfl, hn⟩ | ⟨g, cap, cur, rfl, hb, hg, hnc, hcm, hcs, ht⟩
  · have : l = [] := List.eq_nil_of_length_eq_zero hn
    subst this
    exact Reads.nil w
  · refine ⟨some ⟨g, 0, none⟩, cap, rfl, hnc, hcm, (fun h => by cases h), ?_⟩
    rintro ad ⟨rfl⟩
    exact fun j u hj => World.ownsRow.cells hc rfl j u hj

theorem Reads.below {w w' : World} {v : Value} {l : List UInt8} (h : Reads w v l) (hb : Below w.heap.size w w') : Reads w' v l := by
  obtain ⟨ao, cap, rfl, h1, h2, h3, h4⟩ := h
  refine ⟨ao, cap, rfl, h1, h2, h3, fun ad ha j u hj => ?_⟩
  have hc := h4 ad ha j u hj
  rw [hb.cell (World.block_lt_of_cell? _ _ hc)]
  exact hc
theorem Reads.drew {w : World} {v : Value} {l : List UInt8} (h : Reads w v l) : Reads w.drew v l := h

/-- The address and the cells of a slice that isn't empty. -/
theorem Reads.cells {w : World} {ao : Option Addr} {n cap : Nat} {l : List UInt8} (h : Reads w (.slice ao n cap) l) :
    n = l.length ∧ l.length ≤ cap ∧ cap ≤ maxLen ∧ (0 < l.length → ∃ b off, ao = some ⟨b, off, none⟩ ∧ ∀ i, i < l.length → w.cell? ⟨b, off + i, none⟩ = some (.int .u8 ((l.getD i 0).toNat : Int))) := by
  obtain ⟨ao', cap', he, h1, h2, h3, h4⟩ := h
  simp only [Value.slice.injEq] at he
  obtain ⟨rfl, rfl, rfl⟩ := he
  refine ⟨rfl, h1, h2, fun hp => ?_⟩
  cases ao with
  | none => have := (h3 rfl).1; omega
  | some ad =>
    obtain ⟨b, off, sp⟩ := ad
    have hc := h4 _ rfl
    have hs : sp = none := by
      have := World.cell?_spot (hc 0 _ (bv_get l 0 hp))
      simpa [Addr.add] using this
    subst hs
    exact ⟨b, off, rfl, fun i hi => by rw [← Addr.add_lit]; exact hc i _ (bv_get l i hi)⟩

theorem Try.info5 : (Try.prog.info? 5).map (fun i => (i.zero, i.size, i.bytes)) = some (some (.int .u8 0), 1, 1) := by kernel_rfl
end Go.Proofs.Ythegdhbmfojdaaa.Wi
