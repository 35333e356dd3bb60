/- What is said of bytes, rows and boxes in memory. No walk stands here. -/
import Derived.Test.YtmnlkmgpikilbaaProg
import Derived.WalkKit
import Derived.Below
import Derived.WalkSpells
import Derived.OwnWalk
import Derived.Laws.OwnMore
import Derived.Laws.AppendOwnNone
import Derived.Lib.SlBytesConst
import Derived.Laws.BytesArg
import Derived.Outline
import Derived.Lib.Strings
import Derived.Maps.RangeWalk
import Derived.Maps.OwnSet
import Derived.Handy
import Derived.Deep.LoopGhost
namespace Go.Proofs.Ytmnlkmgpikilbaa
open Go.RowKit

abbrev Str := List UInt8

theorem hide {p : Prop} (h : p) : Hid p := h
theorem ret_int {k : IntKind} {a b : Int} (h : a = b) : Ending.returned (.int k a) = .returned (.int k b) := by rw [h]
theorem unhide {p : Prop} (h : Hid p) : p := h

/-- The cells that hold these bytes. -/
def bv (l : List UInt8) : List Value := l.map fun c => .int .u8 (c.toNat : Int)
theorem bv_length (l : List UInt8) : (bv l).length = l.length := by simp [bv]
theorem bv_append (l m : List UInt8) : bv (l ++ m) = bv l ++ bv m := by simp [bv]
theorem bv_one (l : List UInt8) : ∀ u ∈ bv l, u.oneCell' = true := by
  intro u hu; simp [bv] at hu; obtain ⟨c, _, rfl⟩ := hu; rfl
theorem bv_get (l : List UInt8) (i : Nat) (h : i < l.length) : (bv l)[i]? = some (.int .u8 ((l.getD i 0).toNat : Int)) := by
  simp [bv, h]

/-- A slice value reads as these bytes: nil and nothing, or an address from which they lie. -/
def Reads (w : World) (v : Value) (l : List UInt8) : Prop :=
  ∃ ao cap, v = .slice ao l.length cap ∧ l.length ≤ cap ∧ cap ≤ maxLen ∧ (ao = none → l.length = 0 ∧ cap = 0) ∧
    ∀ ad, ao = some ad → ∀ j u, (bv l)[j]? = some u → w.cell? (ad.add j) = some u

theorem Reads.nil (w : World) : Reads w (.slice none 0 0) [] := ⟨none, 0, rfl, Nat.le_refl _, Nat.zero_le _, fun _ => ⟨rfl, rfl⟩, fun _ h => by cases h⟩

/-- An owned row of bytes. -/
def Owns (w : World) (base : Nat) (v : Value) (l : List UInt8) : Prop := w.ownsRow base 5 1 v l.length (bv l)

theorem Owns.reads {w : World} {base : Nat} {v : Value} {l : List UInt8} (h : Owns w base v l) : Reads w v l := by
  have hc := h
  rcases h.2 with ⟨rfl, hn⟩ | ⟨g, cap, cur, rfl, hb, hg, hnc, hcm, hcs, ht⟩
  · have : l = [] := List.eq_nil_of_length_eq_zero hn
    subst this
    exact Reads.nil w
  · refine ⟨some ⟨g, 0, none⟩, cap, rfl, hnc, hcm, (fun h => by cases h), ?_⟩
    rintro ad ⟨rfl⟩
    exact fun j u hj => World.ownsRow.cells hc rfl j u hj

theorem Reads.below {w w' : World} {v : Value} {l : List UInt8} (h : Reads w v l) (hb : Below w.heap.size w w') : Reads w' v l := by
  obtain ⟨ao, cap, rfl, h1, h2, h3, h4⟩ := h
  refine ⟨ao, cap, rfl, h1, h2, h3, fun ad ha j u hj => ?_⟩
  have hc := h4 ad ha j u hj
  rw [hb.cell (World.block_lt_of_cell? _ _ hc)]
  exact hc
theorem Reads.drew {w : World} {v : Value} {l : List UInt8} (h : Reads w v l) : Reads w.drew v l := h

/-- The address and the cells of a slice that isn't empty. -/
theorem Reads.cells {w : World} {ao : Option Addr} {n cap : Nat} {l : List UInt8} (h : Reads w (.slice ao n cap) l) :
    n = l.length ∧ l.length ≤ cap ∧ cap ≤ maxLen ∧ (0 < l.length → ∃ b off, ao = some ⟨b, off, none⟩ ∧ ∀ i, i < l.length → w.cell? ⟨b, off + i, none⟩ = some (.int .u8 ((l.getD i 0).toNat : Int))) := by
  obtain ⟨ao', cap', he, h1, h2, h3, h4⟩ := h
  simp only [Value.slice.injEq] at he
  obtain ⟨rfl, rfl, rfl⟩ := he
  refine ⟨rfl, h1, h2, fun hp => ?_⟩
  cases ao with
  | none => have := (h3 rfl).1; omega
  | some ad =>
    obtain ⟨b, off, sp⟩ := ad
    have hc := h4 _ rfl
    have hs : sp = none := by
      have := World.cell?_spot (hc 0 _ (bv_get l 0 hp))
      simpa [Addr.add] using this
    subst hs
    exact ⟨b, off, rfl, fun i hi => by rw [← Addr.add_lit]; exact hc i _ (bv_get l i hi)⟩

theorem Try.info5 : (Try.prog.info? 5).map (fun i => (i.zero, i.size, i.bytes)) = some (some (.int .u8 0), 1, 1) := by kernel_rfl
theorem grown_trans {a b c : World} {r : Option Nat} (h : a.grownBy b r) (k : b.grownBy c r) : a.grownBy c r :=
  ⟨k.os.trans h.os, k.tape.trans h.tape, k.output.trans h.output, Nat.le_trans h.size k.size, fun i hi hr => (k.block i (Nat.lt_of_lt_of_le hi h.size) hr).trans (h.block i hi hr)⟩


theorem Owns.mono {w : World} {base base' : Nat} {v : Value} {l : List UInt8} (h : Owns w base v l) (hb : base' ≤ base) : Owns w base' v l := by
  refine ⟨h.1, ?_⟩
  rcases h.2 with h2 | ⟨g, cap, cur, h1, h2, h3⟩
  · exact .inl h2
  · exact .inr ⟨g, cap, cur, h1, by omega, h3⟩
theorem Owns.below {w w' : World} {base : Nat} {v : Value} {l : List UInt8} (h : Owns w base v l) (hb : Below w.heap.size w w') : Owns w' base v l := by
  refine ⟨h.1, ?_⟩
  rcases h.2 with h2 | ⟨g, cap, cur, h1, h2, h3, h4⟩
  · exact .inl h2
  · refine .inr ⟨g, cap, cur, h1, h2, ?_, h4⟩
    rw [hb.block g (Array.getElem?_eq_some_iff.1 h3).1]
    exact h3
theorem Owns.some {w : World} {base : Nat} {v : Value} {l : List UInt8} (h : Owns w base v l) (hl : 0 < l.length) :
    ∃ g cap, v = .slice (.some ⟨g, 0, none⟩) l.length cap ∧ base ≤ g ∧ ∀ j u, (bv l)[j]? = .some u → w.cell? ((⟨g, 0, none⟩ : Addr).add j) = .some u := by
  rcases h.2 with ⟨_, hn⟩ | ⟨g, cap, cur, rfl, h2, h3, h4⟩
  · omega
  · exact ⟨g, cap, rfl, h2, fun j u hj => World.ownsRow.cells h rfl j u hj⟩

theorem app_owns {w1 : World} {base : Nat} {v1 : Value} {a b : List UInt8} (h : w1.ownsRow base 5 1 v1 (a.length + b.length) (bv a ++ bv b)) : Owns w1 base v1 (a ++ b) := by
  unfold Owns
  rw [bv_append, List.length_append]; exact h

theorem Reads.src {w w' : World} {ao : Option Addr} {n cap : Nat} {l : List UInt8} (h : Reads w (.slice ao n cap) l) (hb : Below w.heap.size w w') :
    n = l.length ∧ (ao = none → l.length = 0 ∧ cap = 0) ∧ ∀ ad, ao = .some ad → ∀ j u, (bv l)[j]? = .some u → w'.cell? (ad.add j) = .some u := by
  obtain ⟨ao', cap', he, h1, h2, h3, h4⟩ := h.below hb
  simp only [Value.slice.injEq] at he
  obtain ⟨rfl, rfl, rfl⟩ := he
  exact ⟨rfl, h3, h4⟩

theorem grown_below {base : Nat} {w wr w1 : World} {u : Value} {l : List UInt8} (hbel : Below base w wr) (hb : base ≤ wr.heap.size) (hown : Owns wr base u l) (hg : wr.grownBy w1 u.ownBlock) : Below base w w1 :=
  hbel.grown hg hb (fun k hk => (World.ownsRow.lt hown k hk).1)

/-- A constant's bytes in their new row. -/
theorem const_reads (w : World) (l : List UInt8) (fr : Nat × Nat) (n : Nat) (hn : n = l.length) (hm : l.length ≤ maxLen) (C : Array Value) (hC : C = (bv l).toArray) :
    Reads (w.alloc (.cells C 5 fr)) (.slice (some ⟨w.heap.size, 0, none⟩) n n) l := by
  subst hn hC
  refine ⟨_, _, rfl, Nat.le_refl _, hm, (fun h => by cases h), ?_⟩
  rintro ad ⟨rfl⟩
  intro j u hj
  rw [Addr.add_lit]
  have : (w.alloc (.cells (bv l).toArray 5 fr)).heap[w.heap.size]? = some (.cells (bv l).toArray 5 fr) := by
    show (w.heap.push _)[w.heap.size]? = _
    simp
  unfold World.cell?
  simp only
  rw [this]
  simpa using hj

theorem Owns.shape {w : World} {base : Nat} {v : Value} {l : List UInt8} (h : Owns w base v l) (n : Nat) (hn : l.length = n) : ∃ a c, v = .slice a n c := by
  subst hn
  obtain ⟨a, c, e, _⟩ := h.reads
  exact ⟨a, c, e⟩

/-- The cells of a slice that isn't nil. -/
def At (w : World) (b off : Nat) (l : List UInt8) : Prop := ∀ j u, (bv l)[j]? = some u → w.cell? ⟨b, off + j, none⟩ = some u
theorem At.reads {w : World} {b off c : Nat} {l : List UInt8} (h : At w b off l) (hc : l.length ≤ c) (hm : c ≤ maxLen) (n : Nat) (hn : n = l.length) : Reads w (.slice (some ⟨b, off, none⟩) n c) l := by
  subst hn
  refine ⟨_, _, rfl, hc, hm, (fun h => by cases h), ?_⟩
  rintro ad ⟨rfl⟩
  exact fun j u hj => by rw [Addr.add_lit]; exact h j u hj
theorem At.part {w : World} {b off : Nat} {l : List UInt8} (h : At w b off l) (i m : Nat) : At w b (off + i) ((l.drop i).take m) := by
  intro j u hj
  have hj' : (bv l)[i + j]? = some u := by
    simp only [bv, List.getElem?_map, List.getElem?_take, List.getElem?_drop] at hj ⊢
    split at hj
    · exact hj
    · simp at hj
  have := h (i + j) u hj'
  rw [Nat.add_assoc]; exact this

/-- A slice value reads as these cells: nil and nothing, or an address from which they lie. -/
def Rds (w : World) (v : Value) (xs : List Value) : Prop :=
  ∃ ao cap, v = .slice ao xs.length cap ∧ xs.length ≤ cap ∧ cap ≤ maxLen ∧ (ao = none → xs.length = 0 ∧ cap = 0) ∧
    ∀ ad, ao = some ad → ∀ j u, xs[j]? = some u → w.cell? (ad.add j) = some u
theorem Rds.nil (w : World) : Rds w (.slice none 0 0) [] := ⟨none, 0, rfl, Nat.le_refl _, Nat.zero_le _, fun _ => ⟨rfl, rfl⟩, fun _ h => by cases h⟩
/-- An owned row of cells of the type e. -/
def Own (w : World) (base e : Nat) (v : Value) (xs : List Value) : Prop := w.ownsRow base e 1 v xs.length xs
theorem Own.rds {w : World} {base e : Nat} {v : Value} {xs : List Value} (h : Own w base e v xs) : Rds w v xs := by
  have hc := h
  rcases h.2 with ⟨rfl, hn⟩ | ⟨g, cap, cur, rfl, hb, hg, hnc, hcm, hcs, ht⟩
  · have : xs = [] := List.eq_nil_of_length_eq_zero hn
    subst this
    exact Rds.nil w
  · refine ⟨some ⟨g, 0, none⟩, cap, rfl, hnc, hcm, (fun h => by cases h), ?_⟩
    rintro ad ⟨rfl⟩
    exact fun j u hj => World.ownsRow.cells hc rfl j u hj
theorem Rds.below {w w' : World} {v : Value} {xs : List Value} (h : Rds w v xs) (hb : Below w.heap.size w w') : Rds w' v xs := by
  obtain ⟨ao, cap, rfl, h1, h2, h3, h4⟩ := h
  refine ⟨ao, cap, rfl, h1, h2, h3, fun ad ha j u hj => ?_⟩
  have hc := h4 ad ha j u hj
  rw [hb.cell (World.block_lt_of_cell? _ _ hc)]
  exact hc
theorem Own.mono {w : World} {base base' e : Nat} {v : Value} {xs : List Value} (h : Own w base e v xs) (hb : base' ≤ base) : Own w base' e v xs := by
  refine ⟨h.1, ?_⟩
  rcases h.2 with h2 | ⟨g, cap, cur, h1, h2, h3⟩
  · exact .inl h2
  · exact .inr ⟨g, cap, cur, h1, by omega, h3⟩
theorem Own.below {w w' : World} {base e : Nat} {v : Value} {xs : List Value} (h : Own w base e v xs) (hb : Below w.heap.size w w') : Own w' base e v xs := by
  refine ⟨h.1, ?_⟩
  rcases h.2 with h2 | ⟨g, cap, cur, h1, h2, h3, h4⟩
  · exact .inl h2
  · refine .inr ⟨g, cap, cur, h1, h2, ?_, h4⟩
    rw [hb.block g (Array.getElem?_eq_some_iff.1 h3).1]
    exact h3
theorem Rds.cells {w : World} {ao : Option Addr} {n cap : Nat} {xs : List Value} (h : Rds w (.slice ao n cap) xs) :
    n = xs.length ∧ xs.length ≤ cap ∧ cap ≤ maxLen ∧ (0 < xs.length → ∃ b off, ao = some ⟨b, off, none⟩ ∧ ∀ i u, xs[i]? = some u → w.cell? ⟨b, off + i, none⟩ = some u) := by
  obtain ⟨ao', cap', he, h1, h2, h3, h4⟩ := h
  simp only [Value.slice.injEq] at he
  obtain ⟨rfl, rfl, rfl⟩ := he
  refine ⟨rfl, h1, h2, fun hp => ?_⟩
  cases ao with
  | none => have := (h3 rfl).1; omega
  | some ad =>
    obtain ⟨b, off, sp⟩ := ad
    have hc := h4 _ rfl
    have hs : sp = none := by
      have := World.cell?_spot (hc 0 _ (List.getElem?_eq_getElem hp))
      simpa [Addr.add] using this
    subst hs
    exact ⟨b, off, rfl, fun i u hi => by rw [← Addr.add_lit]; exact hc i _ hi⟩
/-- Texts as cells. -/
def sv (ts : List Str) : List Value := ts.map fun t => Value.string ⟨t.toArray⟩
theorem sv_length (ts : List Str) : (sv ts).length = ts.length := by simp [sv]
theorem sv_append (l m : List Str) : sv (l ++ m) = sv l ++ sv m := by simp [sv]
theorem sv_one (ts : List Str) : ∀ u ∈ sv ts, u.oneCell' = true := by
  intro u hu; simp [sv] at hu; obtain ⟨c, _, rfl⟩ := hu; rfl
theorem sv_get (ts : List Str) (i : Nat) (h : i < ts.length) : (sv ts)[i]? = some (.string ⟨(ts.getD i []).toArray⟩) := by simp [sv, h]
theorem sv_set (ts : List Str) (i : Nat) (t : Str) : sv (ts.set i t) = (sv ts).set i (.string ⟨t.toArray⟩) := by simp [sv, List.map_set]
theorem Try.info_str : (Try.prog.info? 9).map (fun i => (i.zero, i.size, i.bytes)) = some (some (.string ⟨#[]⟩), 1, 16) := by kernel_rfl
theorem str_toList (t : Str) : (⟨t.toArray⟩ : ByteArray).toList = t := by rw [Lib.toList_data]
theorem str_size (t : Str) : (⟨t.toArray⟩ : ByteArray).size = t.length := by simp [ByteArray.size]

/-- Numbers as cells. -/
def iv (l : List Int) : List Value := l.map fun z => Value.int .i64 z
theorem iv_length (l : List Int) : (iv l).length = l.length := by simp [iv]
theorem iv_get (l : List Int) (i : Nat) (h : i < l.length) : (iv l)[i]? = some (.int .i64 (l.getD i 0)) := by simp [iv, h]
theorem iv_one (l : List Int) : ∀ u ∈ iv l, u.oneCell' = true := by
  intro u hu; simp [iv] at hu; obtain ⟨c, _, rfl⟩ := hu; rfl

/-- A slice value reads as n elements of k cells each. -/
def RdsK (k : Nat) (w : World) (v : Value) (n : Nat) (xs : List Value) : Prop :=
  ∃ ao cap, v = .slice ao n cap ∧ xs.length = n * k ∧ n ≤ cap ∧ cap ≤ maxLen ∧ (ao = none → n = 0 ∧ cap = 0) ∧
    ∀ ad, ao = some ad → ∀ j u, xs[j]? = some u → w.cell? (ad.add j) = some u
theorem RdsK.nil (k : Nat) (w : World) : RdsK k w (.slice none 0 0) 0 [] := ⟨none, 0, rfl, by simp, Nat.le_refl _, Nat.zero_le _, fun _ => ⟨rfl, rfl⟩, fun _ h => by cases h⟩
theorem RdsK.below {k n : Nat} {w w' : World} {v : Value} {xs : List Value} (h : RdsK k w v n xs) (hb : Below w.heap.size w w') : RdsK k w' v n xs := by
  obtain ⟨ao, cap, rfl, h0, h1, h2, h3, h4⟩ := h
  refine ⟨ao, cap, rfl, h0, h1, h2, h3, fun ad ha j u hj => ?_⟩
  have hc := h4 ad ha j u hj
  rw [hb.cell (World.block_lt_of_cell? _ _ hc)]
  exact hc
theorem RdsK.of_own {k base e n : Nat} {w : World} {v : Value} {xs : List Value} (h : w.ownsRow base e k v n xs) : RdsK k w v n xs := by
  have hc := h
  rcases h.2 with ⟨rfl, rfl⟩ | ⟨g, cap, cur, rfl, hb, hg, hnc, hcm, hcs, ht⟩
  · have : xs = [] := List.eq_nil_of_length_eq_zero (by simpa using h.1)
    subst this
    exact RdsK.nil k w
  · refine ⟨some ⟨g, 0, none⟩, cap, rfl, h.1, hnc, hcm, (fun h => by cases h), ?_⟩
    rintro ad ⟨rfl⟩
    exact fun j u hj => World.ownsRow.cells hc rfl j u hj
/-- A box. -/
def BxA (w : World) (g : Nat) (t : TypeId) (cs : Array Value) : Prop := w.heap[g]? = some (.cells cs t (0, 0))
theorem BxA.new (w : World) (t : TypeId) (cs : Array Value) : BxA (w.alloc (.cells cs t)) w.heap.size t cs := by
  show (w.heap.push _)[w.heap.size]? = _
  simp
theorem BxA.cell {w : World} {g : Nat} {t : TypeId} {cs : Array Value} (h : BxA w g t cs) (c : Nat) (u : Value) (hu : cs[c]? = some u) : w.cell? ⟨g, c, none⟩ = some u := by
  unfold BxA at h
  unfold World.cell?
  simp [h, hu]
theorem BxA.set {w : World} {g : Nat} {t : TypeId} {cs : Array Value} (h : BxA w g t cs) (i : Nat) (u : Value) : BxA (w.setCell ⟨g, i, none⟩ u) g t (cs.setIfInBounds i u) := heap_setCell_same w g i _ t u h
theorem BxA.lt {w : World} {g : Nat} {t : TypeId} {cs : Array Value} (h : BxA w g t cs) : g < w.heap.size := (Array.getElem?_eq_some_iff.1 h).1
theorem BxA.free {w : World} {g : Nat} {t : TypeId} {cs : Array Value} (h : BxA w g t cs) (i : Nat) : w.frozen? ⟨g, i, none⟩ = false := frozen_of_row w g i _ t h
theorem grown_setCell {w : World} {R j : Nat} {u : Value} : w.grownBy (w.setCell ⟨R, j, none⟩ u) (some R) :=
  ⟨rfl, rfl, rfl, by simp, fun i _ hi => Below.heap_setCell _ _ _ _ (fun e => hi (by simp [e]))⟩
theorem grown_alloc (w : World) (R : Option Nat) (o : Obj) : w.grownBy (w.alloc o) R := ⟨rfl, rfl, rfl, by simp, fun i hi _ => Below.heap_alloc w o i hi⟩
/-- Nothing that was there has changed but what F names. -/
structure Fr (F : Nat → Prop) (w w' : World) : Prop where
  os : w'.os = w.os
  tape : w'.tape = w.tape
  output : w'.output = w.output
  size : w.heap.size ≤ w'.heap.size
  block : ∀ i, i < w.heap.size → ¬ F i → w'.heap[i]? = w.heap[i]?
theorem Fr.refl (F : Nat → Prop) (w : World) : Fr F w w := ⟨rfl, rfl, rfl, Nat.le_refl _, fun _ _ _ => rfl⟩
theorem Fr.trans {F G : Nat → Prop} {a b c : World} (h : Fr F a b) (k : Fr G b c) (hG : ∀ i, i < a.heap.size → G i → F i) : Fr F a c :=
  ⟨k.os.trans h.os, k.tape.trans h.tape, k.output.trans h.output, Nat.le_trans h.size k.size, fun i hi hn => (k.block i (Nat.lt_of_lt_of_le hi h.size) (fun hg => hn (hG i hi hg))).trans (h.block i hi hn)⟩
theorem Fr.of_grown {F : Nat → Prop} {a b : World} {r : Option Nat} (h : a.grownBy b r) (hr : ∀ j, r = some j → F j ∨ a.heap.size ≤ j) : Fr F a b :=
  ⟨h.os, h.tape, h.output, h.size, fun i hi hn => h.block i hi (fun e => by
    rcases hr i e.symm with h1 | h1
    · exact hn h1
    · omega)⟩
theorem Fr.of_below {F : Nat → Prop} {a b : World} (h : Below a.heap.size a b) : Fr F a b := ⟨h.os, h.tape, h.output, h.size, fun i hi _ => h.block i hi⟩
theorem Fr.below {F : Nat → Prop} {a b : World} {n : Nat} (h : Fr F a b) (hn : n ≤ a.heap.size) (hF : ∀ i, F i → n ≤ i) : Below n a b := ⟨h.os, h.tape, h.output, h.size, fun i hi => h.block i (by omega) (fun hf => by have := hF i hf; omega)⟩
end Go.Proofs.Ytmnlkmgpikilbaa
