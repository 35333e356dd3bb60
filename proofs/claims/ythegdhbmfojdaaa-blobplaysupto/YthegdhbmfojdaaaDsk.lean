/- A disk as it is said, and as it lies in memory. No walk stands here. -/
import Derived.Test.YthegdhbmfojdaaaMem
namespace Go.Proofs.Ythegdhbmfojdaaa
open Go.RowKit Go.Maps

/-- A file: its name, its bytes, how many of them are synced. -/
structure Fl where
  nm : Str
  bs : Str
  sy : Nat
/-- A disk. -/
structure St where
  fs : List Fl
  ops : Nat
  off : Bool
  set : Bool
  op : Int
  part : Int
def nmB (c : UInt8) : Bool := !(decide (c.toNat < 33) || decide (126 < c.toNat))
def isNm (s : Str) : Bool := !(decide (s.length < 1) || decide (64 < s.length)) && s.all nmB
def hasF (fs : List Fl) (s : Str) : Bool := fs.any fun f => f.nm == s
def cutK (part : Int) (n sy : Nat) : Nat := sy + min part.toNat (n - sy)
def cutF (part : Int) (f : Fl) : Fl := ⟨f.nm, f.bs.take (cutK part f.bs.length f.sy), cutK part f.bs.length f.sy⟩
def St.cut (s : St) (part : Int) : St := if s.off then s else { s with fs := s.fs.map (cutF part), off := true }
def St.tick (s : St) : St := { s with ops := s.ops + 1 }
/-- An operation is counted: its code, and the disk. -/
def St.count (s : St) : Nat × St := if s.set = true ∧ (s.ops : Int) = s.op then (122, s.tick.cut s.part) else (0, s.tick)
def rfC (s : St) (ns : List Str) : Nat := if s.off then 122 else if ns.all isNm then 0 else 1
def rfF (s : St) (nm : Str) (ns : List Str) : Nat := if rfC s (ns ++ [nm]) ≠ 0 then rfC s (ns ++ [nm]) else if hasF s.fs nm then 0 else 120
def St.begins (s : St) (nm : Str) (ns : List Str) : Nat × St := if rfF s nm ns ≠ 0 then (rfF s nm ns, s) else s.count
def opnF (fs : List Fl) (nm : Str) : List Fl := if hasF fs nm then fs else fs ++ [⟨nm, [], 0⟩]
def addF (fs : List Fl) (nm b : Str) : List Fl := fs.map fun f => if f.nm = nm then ⟨f.nm, f.bs ++ b, f.sy⟩ else f
def St.append (s : St) (nm b : Str) : Nat × St :=
  if rfC s [nm] ≠ 0 then (rfC s [nm], s) else if hasF s.fs nm = false ∧ 1000 ≤ s.fs.length then (1, s) else St.count { s with fs := addF (opnF s.fs nm) nm b }
def synF (fs : List Fl) (nm : Str) : List Fl := fs.map fun f => if f.nm = nm then ⟨f.nm, f.bs, f.bs.length⟩ else f
def delF (fs : List Fl) (nm : Str) : List Fl := fs.filter fun f => !(f.nm == nm)
def gotF (fs : List Fl) (nm : Str) : List Fl := fs.filter fun f => f.nm == nm
def movF (fs : List Fl) (a b : Str) : List Fl := delF (delF fs a) b ++ (gotF fs a).map fun f => ⟨b, f.bs, f.sy⟩
def St.sync (s : St) (nm : Str) : Nat × St := if (s.begins nm []).1 ≠ 0 then s.begins nm [] else (0, { (s.begins nm []).2 with fs := synF (s.begins nm []).2.fs nm })
def St.rename (s : St) (a b : Str) : Nat × St := if (s.begins a [b]).1 ≠ 0 then s.begins a [b] else (0, { (s.begins a [b]).2 with fs := movF (s.begins a [b]).2.fs a b })
def St.remove (s : St) (nm : Str) : Nat × St := if (s.begins nm []).1 ≠ 0 then s.begins nm [] else (0, { (s.begins nm []).2 with fs := delF (s.begins nm []).2.fs nm })
def bytF (fs : List Fl) (nm : Str) : Str := ((gotF fs nm).map Fl.bs).headD []

/-- How a file's pointer reads. -/
def pel (v : Value) : Option (DataW Unit × List MemPlace) :=
  match v with
  | .pointer none => some (.nil, [])
  | .pointer (some ⟨g, 0, none⟩) => some (.lit (.int .i64 (g : Int)), [])
  | _ => none
theorem pel_mk (g : Nat) : pel (.pointer (some ⟨g, 0, none⟩)) = some (.lit (.int .i64 (g : Int)), []) := rfl
theorem pel_inv {v : Value} {y : DataW Unit × List MemPlace} (h : pel v = some y) : v = .pointer none ∨ ∃ g : Nat, v = .pointer (some ⟨g, 0, none⟩) ∧ y = (.lit (.int .i64 (g : Int)), []) := by
  unfold pel at h
  split at h
  · exact .inl rfl
  · cases h; exact .inr ⟨_, rfl, rfl⟩
  · cases h
theorem pel_at {v : Value} {g : Nat} {ps : List MemPlace} (h : pel v = some (.lit (.int .i64 (g : Int)), ps)) : v = .pointer (some ⟨g, 0, none⟩) := by
  rcases pel_inv h with rfl | ⟨g', rfl, e⟩
  · cases h
  · simp only [Prod.mk.injEq, DataW.lit.injEq, Lit.int.injEq] at e
    have : g = g' := by have := e.1.2; omega
    rw [this]
theorem law : Keyed Try.prog 9 := string_keyed Try.underlying9
theorem key_mk (t : Str) (h : t.length ≤ maxLen) : keyOf Try.prog 9 (.string ⟨t.toArray⟩) = some (.string t) := by
  have := Go.WideMaps.keyOf_string_mk (P := Try.prog) (k := 9) Try.underlying9 (s := ⟨t.toArray⟩) (by rw [str_size]; exact h)
  simpa using this

/-- A file as it lies in memory. -/
structure Ent where
  nm : Str
  g : Nat
  v : Value
  bs : Str
  sy : Nat
def Ent.fl (e : Ent) : Fl := ⟨e.nm, e.bs, e.sy⟩
structure EOk (w : World) (F : Nat → Prop) (e : Ent) : Prop where
  b : BxA w e.g 89 #[e.v, .int .i64 (e.sy : Int)]
  f : F e.g
  o : Owns w 0 e.v e.bs
  fv : ∀ r, e.v.ownBlock = some r → F r
  le : e.sy ≤ e.bs.length
def Apart (a b : Ent) : Prop := a.nm ≠ b.nm ∧ a.g ≠ b.g ∧ ∀ r, a.v.ownBlock = some r → b.v.ownBlock ≠ some r
theorem Apart.symm {a b : Ent} (h : Apart a b) : Apart b a := ⟨h.1.symm, h.2.1.symm, fun r h1 h2 => h.2.2 r h2 h1⟩
/-- What the map says. -/
structure MD (D : DataW Unit) (Z : List Ent) : Prop where
  at' : ∀ e ∈ Z, ∀ z, D.atKey (.string e.nm) z = .lit (.int .i64 (e.g : Int))
  has : ∀ s, Maps.has D (.string s) = Z.any fun e => e.nm == s
  size : Maps.size D = Z.length
/-- The map of files, nil or not. -/
def MapZ (w : World) (mo : Option Nat) (Z : List Ent) : Prop := (mo = none ∧ Z = []) ∨ ∃ m D, mo = some m ∧ w.ownsMap Try.prog 9 pel m Z.length D ∧ MD D Z
structure DkZ (w : World) (d : Nat) (F : Nat → Prop) (N : Nat) (s : St) (mo : Option Nat) (Z : List Ent) : Prop where
  b : BxA w d 69 #[.map mo, .int .i64 (s.ops : Int), .bool s.off, .bool s.set, .int .i64 s.op, .int .i64 s.part]
  f : F d
  m : MapZ w mo Z
  fm : ∀ m, mo = some m → F m
  e : ∀ x ∈ Z, EOk w F x
  ap : Z.Pairwise Apart
  fs : Z.map Ent.fl = s.fs
  n : ∀ x ∈ Z, x.bs.length ≤ N
  nm : ∀ x ∈ Z, x.nm.length ≤ 64
  few : Z.length ≤ 1000
  ops : s.ops ≤ 1000000
  lt : ∀ i, F i → i < w.heap.size
/-- A disk behind a pointer to the block d: what it has of its own lies in F's blocks; no file has more than N bytes. -/
structure Dk (w : World) (d : Nat) (F : Nat → Prop) (N : Nat) (s : St) : Prop where
  ex : ∃ mo Z, DkZ w d F N s mo Z
theorem owns_block {w w' : World} {base : Nat} {v : Value} {l : Str} (h : Owns w base v l) (hb : ∀ r, v.ownBlock = some r → w'.heap[r]? = w.heap[r]?) : Owns w' base v l := by
  refine ⟨h.1, ?_⟩
  rcases h.2 with h2 | ⟨g, cap, cur, h1, h2, h3, h4⟩
  · exact .inl h2
  · refine .inr ⟨g, cap, cur, h1, h2, ?_, h4⟩
    rw [hb g (by rw [h1]; rfl)]
    exact h3
theorem EOk.frame {w w' : World} {F : Nat → Prop} {e : Ent} (h : EOk w F e) (hb : ∀ i, F i → w'.heap[i]? = w.heap[i]?) : EOk w' F e :=
  ⟨by have := h.b; unfold BxA at this ⊢; rw [hb _ h.f]; exact this, h.f, owns_block h.o fun r hr => hb r (h.fv r hr), h.fv, h.le⟩
theorem EOk.mono {w : World} {F G : Nat → Prop} {e : Ent} (h : EOk w F e) (hF : ∀ i, F i → G i) : EOk w G e := ⟨h.b, hF _ h.f, h.o, fun r hr => hF r (h.fv r hr), h.le⟩
theorem MapZ.frame {w w' : World} {mo : Option Nat} {Z : List Ent} (h : MapZ w mo Z) (hb : ∀ m, mo = some m → w'.heap[m]? = w.heap[m]?) : MapZ w' mo Z := by
  rcases h with h | ⟨m, D, rfl, ⟨es, clock, h1, h2⟩, h3⟩
  · exact .inl h
  · exact .inr ⟨m, D, rfl, ⟨es, clock, (hb m rfl).trans h1, h2⟩, h3⟩
theorem DkZ.frame {w w' : World} {d N : Nat} {F : Nat → Prop} {s : St} {mo : Option Nat} {Z : List Ent} (h : DkZ w d F N s mo Z) (hs : w.heap.size ≤ w'.heap.size) (hb : ∀ i, F i → w'.heap[i]? = w.heap[i]?) : DkZ w' d F N s mo Z :=
  ⟨by have := h.b; unfold BxA at this ⊢; rw [hb _ h.f]; exact this, h.f, h.m.frame fun m hm => hb m (h.fm m hm), h.fm, fun x hx => (h.e x hx).frame hb, h.ap, h.fs, h.n, h.nm, h.few, h.ops, fun i hi => Nat.lt_of_lt_of_le (h.lt i hi) hs⟩
theorem DkZ.below {w w' : World} {d N : Nat} {F : Nat → Prop} {s : St} {mo : Option Nat} {Z : List Ent} (h : DkZ w d F N s mo Z) (hb : Below w.heap.size w w') : DkZ w' d F N s mo Z := h.frame hb.size fun i hi => hb.block i (h.lt i hi)
theorem Dk.frame {w w' : World} {d N : Nat} {F : Nat → Prop} {s : St} (h : Dk w d F N s) (hs : w.heap.size ≤ w'.heap.size) (hb : ∀ i, F i → w'.heap[i]? = w.heap[i]?) : Dk w' d F N s := by
  obtain ⟨mo, Z, h⟩ := h
  exact ⟨mo, Z, h.frame hs hb⟩
theorem Dk.below {w w' : World} {d N : Nat} {F : Nat → Prop} {s : St} (h : Dk w d F N s) (hb : Below w.heap.size w w') : Dk w' d F N s := by
  obtain ⟨mo, Z, h⟩ := h
  exact ⟨mo, Z, h.below hb⟩
/-- Another thing's operation leaves the disk. -/
theorem Dk.other {w w' : World} {d N : Nat} {F G : Nat → Prop} {s : St} (h : Dk w d F N s) (hf : Fr G w w') (ha : ∀ i, F i → ¬ G i) : Dk w' d F N s := by
  obtain ⟨mo, Z, h⟩ := h
  exact ⟨mo, Z, h.frame hf.size fun i hi => hf.block i (h.lt i hi) (ha i hi)⟩
/-- Behind an operation on the disk. -/
structure Mv (w w' : World) (d : Nat) (F : Nat → Prop) (N : Nat) (s' : St) : Prop where
  ex : ∃ F' : Nat → Prop, Dk w' d F' N s' ∧ (∀ i, F' i → F i ∨ w.heap.size ≤ i)
  fr : Fr F w w'
theorem hasF_any (Z : List Ent) (s : Str) : hasF (Z.map Ent.fl) s = Z.any fun e => e.nm == s := by
  unfold hasF
  rw [List.any_map]
  rfl
theorem DkZ.has {w : World} {d N : Nat} {F : Nat → Prop} {s : St} {mo : Option Nat} {Z : List Ent} (h : DkZ w d F N s mo Z) (t : Str) : hasF s.fs t = Z.any fun e => e.nm == t := by rw [← h.fs, hasF_any]
theorem DkZ.get {w : World} {d N : Nat} {F : Nat → Prop} {s : St} {mo : Option Nat} {Z : List Ent} (h : DkZ w d F N s mo Z) {t : Str} (ht : hasF s.fs t = true) : ∃ e ∈ Z, e.nm = t := by
  rw [h.has t, List.any_eq_true] at ht
  obtain ⟨e, he, h1⟩ := ht
  exact ⟨e, he, by simpa using h1⟩
end Go.Proofs.Ythegdhbmfojdaaa
