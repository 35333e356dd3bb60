/- writeList, for each type of its items. -/
import Derived.Test.YtpdlioidiobbbaaWrt
import Derived.Test.YtpdlioidiobbbaaFm1
namespace Go.Proofs.Ytpdlioidiobbbaa
open Go.RowKit

def encAll {α : Type} (f : α → Option Bs) : List α → Option Bs
  | [] => some []
  | x :: r => cat (f x) (encAll f r)
/-- What a list is written as. -/
def el {α : Type} (f : α → Option Bs) (l : List α) : Option Bs := cat (some (Num.uv l.length)) (encAll f l)
theorem flat_get {α : Type} {f : α → List Value} {k : Nat} (hk : ∀ x, (f x).length = k) : ∀ (l : List α) (i c : Nat) (hi : i < l.length), c < k → (l.flatMap f)[i * k + c]? = (f l[i])[c]?
  | a :: l, 0, c, _, hc => by
    simp only [List.flatMap_cons, List.getElem_cons_zero, Nat.zero_mul, Nat.zero_add]
    rw [List.getElem?_append_left (by rw [hk]; exact hc)]
  | a :: l, i + 1, c, hi, hc => by
    have ih := flat_get hk l i c (by simpa using hi) hc
    simp only [List.flatMap_cons, List.getElem_cons_succ]
    rw [List.getElem?_append_right (by rw [hk, Nat.add_mul]; omega), hk, show (i + 1) * k + c - k = i * k + c by rw [Nat.add_mul]; omega]
    exact ih
/-- Items one behind the other, of k cells each. -/
def Lst {α : Type} (k : Nat) (f : α → List Value) (w : World) (v : Value) (l : List α) : Prop := Fi.RdsK k w v l.length (l.flatMap f)
theorem Lst.below {α : Type} {k : Nat} {f : α → List Value} {w w' : World} {v : Value} {l : List α} (h : Lst k f w v l) (b : Below w.heap.size w w') : Lst k f w' v l := Fi.RdsK.below h b
theorem Lst.sl {α : Type} {k : Nat} {f : α → List Value} {w : World} {v : Value} {l : List α} (h : Lst k f w v l) : ∃ a c, v = .slice a l.length c ∧ l.length ≤ c ∧ c ≤ maxLen := by
  obtain ⟨ao, cap, rfl, h0, h1, h2, h3⟩ := h
  exact ⟨ao, cap, rfl, h1, h2⟩
theorem Lst.at {α : Type} {k : Nat} {f : α → List Value} {w : World} {ao : Option Addr} {n cap : Nat} {l : List α} (hk0 : 0 < k) (hk : ∀ x, (f x).length = k) (h : Lst k f w (.slice ao n cap) l) (h0 : 0 < l.length) :
    ∃ b off, ao = some ⟨b, off, none⟩ ∧ ∀ i (hi : i < l.length) c u, c < k → (f l[i])[c]? = some u → w.cell? ⟨b, off + (i * k + c), none⟩ = some u := by
  obtain ⟨hn, e0, e1, e2, e3, e4⟩ := Fi.RdsK.cells hk0 h
  obtain ⟨b, off, rfl, hc⟩ := e3 (by omega)
  exact ⟨b, off, rfl, fun i hi c u hck hu => hc (i * k + c) u (by rw [flat_get hk l i c hi hck]; exact hu)⟩
def cl_str (x : Fi.Str) : List Value := [.string ⟨x.toArray⟩]
def cl_i64 (x : Int) : List Value := [.int .i64 x]
def cl_int (x : Int) : List Value := [.int .i64 x]
def cl_set (x : Value × List Int) : List Value := [x.1]
def cl_agg (x : Int × Int) : List Value := [.int .i64 x.1, .int .i64 x.2]
/-- A segment's name. -/
structure Sg where
  F : Int
  T : Int
  V : Int
  P : Int
  C : Int
/-- What an aggregator has, as it lies in memory. -/
structure Pt where
  n : Nat
  v : Int
  tv : Value
  ts : List Fi.Str
/-- A group as it lies in memory. -/
structure Gp where
  s : Int
  b : Int
  dv : Value
  ds : List Fi.Str
  pv : Value
  ps : List Pt
def cl_seg (x : Sg) : List Value := [.int .i64 x.F, .int .i64 x.T, .int .i64 x.V, .int .i64 x.P, .int .i64 x.C]
def cl_prt (x : Pt) : List Value := [.int .u64 (x.n : Nat), .int .i64 x.v, x.tv]
def cl_grp (x : Gp) : List Value := [.int .i64 x.s, .int .i64 x.b, x.dv, x.pv]
def cl_fil (x : Fi.Tr) : List Value := [.int .i64 x.k, .int .i64 x.d, x.tv, .int .i64 x.lo, .int .i64 x.hi, x.kv]
end Go.Proofs.Ytpdlioidiobbbaa
