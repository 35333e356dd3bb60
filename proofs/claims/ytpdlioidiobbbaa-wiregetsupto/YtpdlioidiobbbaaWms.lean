/- The writer: spans, segments, orders, facts, groups, filters, queries, messages. -/
import Derived.Test.YtpdlioidiobbbaaWls
namespace Go.Proofs.Ytpdlioidiobbbaa
open Go.RowKit

/-- A box of some cells. -/
def BxA (w : World) (g : Nat) (t : TypeId) (cs : Array Value) : Prop := w.heap[g]? = some (.cells cs t (0, 0))
theorem BxA.new (w : World) (t : TypeId) (cs : Array Value) : BxA (w.alloc (.cells cs t)) w.heap.size t cs := heap_alloc_new w _
theorem BxA.kp {w w' : World} {p g : Nat} {t : TypeId} {cs : Array Value} (h : BxA w g t cs) (hk : KP p w w') (hg : g ≠ p) (ht : t ≠ 5) : BxA w' g t cs := by
  unfold BxA at h ⊢
  rw [hk.2 g (Array.getElem?_eq_some_iff.1 h).1 hg (fun c fr e => ht (by rw [h] at e; simp at e; exact e.2.1)), h]
theorem BxA.cell {w : World} {g : Nat} {t : TypeId} {cs : Array Value} (h : BxA w g t cs) (c : Nat) (u : Value) (hu : cs[c]? = some u) : w.cell? ⟨g, c, none⟩ = some u := by
  unfold BxA at h
  simp [World.cell?, h, hu]
def In64 (z : Int) : Prop := -9223372036854775808 ≤ z ∧ z ≤ 9223372036854775807
def InU (n : Nat) : Prop := n < 18446744073709551616
theorem flat_str (ts : List Fi.Str) : ts.flatMap cl_str = Fi.sv ts := by
  induction ts with
  | nil => rfl
  | cons a r ih => simp only [List.flatMap_cons, ih, Fi.sv, List.map_cons, cl_str]; rfl
theorem rds_lst {w : World} {v : Value} {ts : List Fi.Str} (h : Fi.Rds w v (Fi.sv ts)) : Lst 1 cl_str w v ts := by
  obtain ⟨ao, cap, rfl, h1, h2, h3, h4⟩ := h
  have e := flat_str ts
  unfold Lst
  rw [e]
  rw [Fi.sv_length] at h1 h3 ⊢
  exact ⟨ao, cap, rfl, by rw [Fi.sv_length]; omega, h1, h2, h3, h4⟩
/-- Texts that can be. -/
def Txs (ts : List Fi.Str) : Prop := ∀ t ∈ ts, t.length ≤ 140737488351232
def Zs (zs : List Int) : Prop := ∀ z ∈ zs, In64 z
def e_txt (ts : List Fi.Str) : Option Bs := el (fun t => some (et t)) ts
def e_int (z : Int) : Option Bs := some (ei z)
def Sg.In (x : Sg) : Prop := In64 x.F ∧ In64 x.T ∧ In64 x.V ∧ In64 x.P ∧ In64 x.C
structure Pt.Ok (w : World) (x : Pt) : Prop where
  n : InU x.n
  v : In64 x.v
  r : Lst 1 cl_str w x.tv x.ts
  t : Txs x.ts
theorem lst_sl {α : Type} {k : Nat} {f : α → List Value} {w : World} {v : Value} {l : List α} (h : Lst k f w v l) : ∃ a n c, v = .slice a n c := by obtain ⟨a, c, e, _⟩ := h.sl; exact ⟨a, _, c, e⟩
structure Gp.Ok (w : World) (x : Gp) : Prop where
  s : In64 x.s
  b : In64 x.b
  r : Lst 1 cl_str w x.dv x.ds
  t : Txs x.ds
  p : Lst 3 cl_prt w x.pv x.ps
  o : ∀ y ∈ x.ps, y.Ok w
/-- A filter's bytes: none, if it is deeper than may be. -/
def e_fil : Nat → Fi.Tr → Option Bs
  | 0, _ => none
  | n + 1, t => cat (e_int t.k) (cat (e_int t.d) (cat (e_txt t.ts) (cat (e_int t.lo) (cat (e_int t.hi) (el (e_fil n) t.ks)))))
theorem e_fil_succ (n : Nat) (t : Fi.Tr) : e_fil (n + 1) t = cat (e_int t.k) (cat (e_int t.d) (cat (e_txt t.ts) (cat (e_int t.lo) (cat (e_int t.hi) (el (e_fil n) t.ks))))) := rfl
/-- Its numbers and texts can be, all the way down. -/
inductive TrIn : Fi.Tr → Prop
  | mk {t : Fi.Tr} (k : In64 t.k) (d : In64 t.d) (lo : In64 t.lo) (hi : In64 t.hi) (ts : Txs t.ts) (h : ∀ c ∈ t.ks, TrIn c) : TrIn t
theorem TrIn.out {t : Fi.Tr} (h : TrIn t) : In64 t.k ∧ In64 t.d ∧ In64 t.lo ∧ In64 t.hi ∧ Txs t.ts ∧ ∀ c ∈ t.ks, TrIn c := by cases h; exact ⟨by assumption, by assumption, by assumption, by assumption, by assumption, by assumption⟩
theorem tr_lst {w : World} {t : Fi.Tr} (h : t.Ok w) : Lst 6 cl_fil w t.kv t.ks := h.rk
/-- A query as it lies in memory. -/
structure Qw where
  F : Int
  T : Int
  t : Fi.Tr
  g : Int
  sv : Value
  ss : List (Value × List Int)
  av : Value
  ag : List (Int × Int)
  G : Int
  R : Int
structure Qw.Ok (w : World) (q : Qw) : Prop where
  f : In64 q.F
  e : In64 q.T
  t : q.t.Ok w
  i : TrIn q.t
  g : In64 q.g
  s : Lst 1 cl_set w q.sv q.ss
  z : ∀ x ∈ q.ss, Lst 1 cl_int w x.1 x.2 ∧ Zs x.2
  a : Lst 2 cl_agg w q.av q.ag
  b : ∀ x ∈ q.ag, In64 x.1 ∧ In64 x.2
  c : In64 q.G
  r : In64 q.R
end Go.Proofs.Ytpdlioidiobbbaa
