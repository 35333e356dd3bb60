/- A timeline in memory. No walk stands here. -/
import Derived.Test.YtgbmigfamefenaaFs1
namespace Go.Proofs.Ytgbmigfamefenaa
open Go.RowKit Go.Maps Go.Sort
set_option linter.unusedVariables false

/-- A set as it lies in memory. -/
structure En where
  k : K3
  core : Int
  v : Value
  ps : List Int
/-- A set as it is said: its key, its core, its parts. -/
abbrev Es := K3 × Int × List Int
def En.es (e : En) : Es := (e.k, e.core, e.ps)
def eV (e : En) : Value := .agg #[.int .i64 e.core, e.v]
def sel (v : Value) : Option (DataW Unit × List MemPlace) :=
  match v with
  | .agg cs => match cs.toList with
    | [.int .i64 c, .slice none n m] => some (.agg [.lit (.int .i64 c), .nil, .lit (.int .i64 (n : Int)), .lit (.int .i64 (m : Int))], [])
    | [.int .i64 c, .slice (some ⟨g, 0, none⟩) n m] => some (.agg [.lit (.int .i64 c), .lit (.int .i64 (g : Int)), .lit (.int .i64 (n : Int)), .lit (.int .i64 (m : Int))], [])
    | _ => none
  | _ => none
def sD (c : Int) (v : Value) : DataW Unit := match v with
  | .slice none n m => .agg [.lit (.int .i64 c), .nil, .lit (.int .i64 (n : Int)), .lit (.int .i64 (m : Int))]
  | .slice (some a) n m => .agg [.lit (.int .i64 c), .lit (.int .i64 (a.block : Int)), .lit (.int .i64 (n : Int)), .lit (.int .i64 (m : Int))]
  | _ => .nil
def eD (e : En) : DataW Unit := sD e.core e.v
/-- The value of a row that begins at its block's beginning, or nil. -/
def Flat (v : Value) : Prop := (∃ n m, v = .slice none n m) ∨ ∃ g n m, v = .slice (some ⟨g, 0, none⟩) n m
theorem flat_own {w : World} {base e k n : Nat} {v : Value} {xs : List Value} (h : w.ownsRow base e k v n xs) : Flat v := by
  rcases h.2 with ⟨h1, _⟩ | ⟨g, cap, cur, h1, _⟩
  · exact .inl ⟨_, _, h1⟩
  · exact .inr ⟨_, _, _, h1⟩
theorem sel_mk (c : Int) {v : Value} (h : Flat v) : sel (.agg #[.int .i64 c, v]) = some (sD c v, []) := by
  rcases h with ⟨n, m, rfl⟩ | ⟨g, n, m, rfl⟩ <;> rfl
theorem sel_at {u : Value} {c : Int} {v : Value} (hv : Flat v) {ps : List MemPlace} (h : sel u = some (sD c v, ps)) : u = .agg #[.int .i64 c, v] := by
  unfold sel at h
  split at h
  · rename_i cs
    split at h
    · rename_i c' n m he
      have e1 : cs = #[.int .i64 c', .slice none n m] := by
        have : cs = cs.toList.toArray := by simp
        rw [this, he]
      rw [e1]
      rcases hv with ⟨n', m', rfl⟩ | ⟨g, n', m', rfl⟩
      · simp only [sD, Option.some.injEq, Prod.mk.injEq, DataW.agg.injEq, List.cons.injEq, DataW.lit.injEq, Lit.int.injEq, true_and] at h
        obtain ⟨⟨rfl, h2, h3, -⟩, -⟩ := h
        have a1 : n = n' := by omega
        have a2 : m = m' := by omega
        rw [a1, a2]
      · simp [sD] at h
    · rename_i c' g n m he
      have e1 : cs = #[.int .i64 c', .slice (some ⟨g, 0, none⟩) n m] := by
        have : cs = cs.toList.toArray := by simp
        rw [this, he]
      rw [e1]
      rcases hv with ⟨n', m', rfl⟩ | ⟨g', n', m', rfl⟩
      · simp [sD] at h
      · simp only [sD, Option.some.injEq, Prod.mk.injEq, DataW.agg.injEq, List.cons.injEq, DataW.lit.injEq, Lit.int.injEq, true_and] at h
        obtain ⟨⟨rfl, h1, h2, h3, -⟩, -⟩ := h
        have a0 : g = g' := by omega
        have a1 : n = n' := by omega
        have a2 : m = m' := by omega
        rw [a0, a1, a2]
    · cases h
  · cases h
structure EOk (w : World) (F : Nat → Prop) (e : En) : Prop where
  o : w.ownsRow 0 3 1 e.v e.ps.length (iv e.ps)
  fv : ∀ r, e.v.ownBlock = some r → F r
  b3 : B3 e.k
def Apart (a b : En) : Prop := a.k ≠ b.k ∧ ∀ r, a.v.ownBlock = some r → b.v.ownBlock ≠ some r
theorem Apart.symm {a b : En} (h : Apart a b) : Apart b a := ⟨h.1.symm, fun r h1 h2 => h.2 r h2 h1⟩
/-- What the map says. -/
structure MD (D : DataW Unit) (Z : List En) : Prop where
  at' : ∀ e ∈ Z, ∀ z, D.atKey (kl e.k) z = eD e
  has : ∀ k, B3 k → Maps.has D (kl k) = Z.any fun e => e.k == k
  size : Maps.size D = Z.length
def MapZ (w : World) (mo : Option Nat) (Z : List En) : Prop := (mo = none ∧ Z = []) ∨ ∃ m D, mo = some m ∧ w.ownsMap Try.prog 55 sel m Z.length D ∧ MD D Z
structure TlZ (w : World) (t : Nat) (F : Nat → Prop) (s : List Es) (mo : Option Nat) (Z : List En) : Prop where
  b : BxA w t 63 #[.map mo]
  f : F t
  m : MapZ w mo Z
  fm : ∀ m, mo = some m → F m
  e : ∀ x ∈ Z, EOk w F x
  ap : Z.Pairwise Apart
  fs : Z.map En.es = s
  lt : ∀ i, F i → i < w.heap.size
/-- A timeline behind a pointer to the block t: what it has of its own lies in F's blocks. -/
structure Tl (w : World) (t : Nat) (F : Nat → Prop) (s : List Es) : Prop where
  ex : ∃ mo Z, TlZ w t F s mo Z
theorem owns_block {w w' : World} {base e k n : Nat} {v : Value} {l : List Value} (h : w.ownsRow base e k v n l) (hb : ∀ r, v.ownBlock = some r → w'.heap[r]? = w.heap[r]?) : w'.ownsRow base e k v n l := by
  refine ⟨h.1, ?_⟩
  rcases h.2 with h2 | ⟨g, cap, cur, h1, h2, h3, h4⟩
  · exact .inl h2
  · refine .inr ⟨g, cap, cur, h1, h2, ?_, h4⟩
    rw [hb g (by rw [h1]; rfl)]
    exact h3
theorem EOk.frame {w w' : World} {F : Nat → Prop} {e : En} (h : EOk w F e) (hb : ∀ i, F i → w'.heap[i]? = w.heap[i]?) : EOk w' F e :=
  ⟨owns_block h.o fun r hr => hb r (h.fv r hr), h.fv, h.b3⟩
theorem EOk.mono {w : World} {F G : Nat → Prop} {e : En} (h : EOk w F e) (hF : ∀ i, F i → G i) : EOk w G e := ⟨h.o, fun r hr => hF r (h.fv r hr), h.b3⟩
theorem MapZ.frame {w w' : World} {mo : Option Nat} {Z : List En} (h : MapZ w mo Z) (hb : ∀ m, mo = some m → w'.heap[m]? = w.heap[m]?) : MapZ w' mo Z := by
  rcases h with h | ⟨m, D, rfl, ⟨es, clock, h1, h2⟩, h3⟩
  · exact .inl h
  · exact .inr ⟨m, D, rfl, ⟨es, clock, (hb m rfl).trans h1, h2⟩, h3⟩
theorem TlZ.frame {w w' : World} {t : Nat} {F : Nat → Prop} {s : List Es} {mo : Option Nat} {Z : List En} (h : TlZ w t F s mo Z) (hs : w.heap.size ≤ w'.heap.size) (hb : ∀ i, F i → w'.heap[i]? = w.heap[i]?) : TlZ w' t F s mo Z :=
  ⟨by have := h.b; unfold BxA at this ⊢; rw [hb _ h.f]; exact this, h.f, h.m.frame fun m hm => hb m (h.fm m hm), h.fm, fun x hx => (h.e x hx).frame hb, h.ap, h.fs, fun i hi => Nat.lt_of_lt_of_le (h.lt i hi) hs⟩
theorem TlZ.below {w w' : World} {t : Nat} {F : Nat → Prop} {s : List Es} {mo : Option Nat} {Z : List En} (h : TlZ w t F s mo Z) (hb : Below w.heap.size w w') : TlZ w' t F s mo Z := h.frame hb.size fun i hi => hb.block i (h.lt i hi)
theorem Tl.below {w w' : World} {t : Nat} {F : Nat → Prop} {s : List Es} (h : Tl w t F s) (hb : Below w.heap.size w w') : Tl w' t F s := by
  obtain ⟨mo, Z, h⟩ := h
  exact ⟨mo, Z, h.below hb⟩
theorem Tl.other {w w' : World} {t : Nat} {F G : Nat → Prop} {s : List Es} (h : Tl w t F s) (hf : Fr G w w') (ha : ∀ i, F i → ¬ G i) : Tl w' t F s := by
  obtain ⟨mo, Z, h⟩ := h
  exact ⟨mo, Z, h.frame hf.size fun i hi => hf.block i (h.lt i hi) (ha i hi)⟩
theorem Tl.lt {w : World} {t : Nat} {F : Nat → Prop} {s : List Es} (h : Tl w t F s) : ∀ i, F i → i < w.heap.size := by
  obtain ⟨mo, Z, h⟩ := h
  exact h.lt
theorem kv_inj {a b : K3} (h : kv a = kv b) : a = b := by
  obtain ⟨a1, a2, a3⟩ := a
  obtain ⟨b1, b2, b3⟩ := b
  simp only [kv, Value.agg.injEq] at h
  have := congrArg Array.toList h
  simp only [List.cons.injEq, Value.int.injEq, true_and, and_true] at this
  obtain ⟨rfl, rfl, rfl⟩ := this
  rfl
theorem kl_inj {a b : K3} (ha : B3 a) (hb : B3 b) (h : kl a = kl b) : a = b := kv_inj (law.inj (key_mk a ha) (by rw [h]; exact key_mk b hb))
theorem kl_key (a : K3) (ha : B3 a) : WideAt.IsKeyLit (kl a) := law.key (key_mk a ha)
theorem apart_mem {Z : List En} (h : Z.Pairwise Apart) {x y : En} (hx : x ∈ Z) (hy : y ∈ Z) : x = y ∨ Apart x y := by
  induction Z with
  | nil => cases hx
  | cons a Z ih =>
    obtain ⟨h1, h2⟩ := List.pairwise_cons.1 h
    rcases List.mem_cons.1 hx with e | hx'
    · rcases List.mem_cons.1 hy with e' | hy'
      · exact .inl (e.trans e'.symm)
      · rw [e]; exact .inr (h1 y hy')
    · rcases List.mem_cons.1 hy with e' | hy'
      · rw [e']; exact .inr (h1 x hx').symm
      · exact ih h2 hx' hy'
def zeroS : Value := .agg #[.int .i64 0, .slice none 0 0]
theorem zeroS_run (w : World) : (zeroValue 67).run Try.prog w = .ok zeroS w := Try.zeroValue67 w
/-- m[k], of one that is there. -/
theorem look_in {w : World} {mo : Option Nat} {Z : List En} (h : MapZ w mo Z) {e : En} (he : e ∈ Z) (hb : B3 e.k) (hf : Flat e.v) (ok : Bool) : (Instr.lookup 61 (.map mo) (kv e.k) ok).run Try.prog w = .ok (if ok then .tuple #[eV e, .bool true] else eV e) w := by
  rcases h with ⟨rfl, rfl⟩ | ⟨m, D, rfl, ho, hd⟩
  · cases he
  · have hz : sel zeroS = some (sD 0 (.slice none 0 0), []) := rfl
    cases ok with
    | false =>
      obtain ⟨v, ps, hrun, hv⟩ := ho.lookup law Try.underlying61 (zeroS_run w) hz (key_mk e.k hb)
      rw [hd.at' e he] at hv
      rw [sel_at hf hv] at hrun
      exact hrun
    | true =>
      obtain ⟨v, ps, hrun, hv⟩ := ho.look_ok law Try.underlying61 (zeroS_run w) hz (key_mk e.k hb)
      rw [hd.at' e he] at hv
      rw [sel_at hf hv, hd.has e.k hb, List.any_eq_true.2 ⟨e, he, by simp⟩] at hrun
      exact hrun
/-- m[k], of one that isn't. -/
theorem look_out {w : World} {mo : Option Nat} {Z : List En} (h : MapZ w mo Z) {k : K3} (hk : ∀ e ∈ Z, e.k ≠ k) (hb : B3 k) (ok : Bool) : (Instr.lookup 61 (.map mo) (kv k) ok).run Try.prog w = .ok (if ok then .tuple #[zeroS, .bool false] else zeroS) w := by
  have hz : sel zeroS = some (sD 0 (.slice none 0 0), []) := rfl
  rcases h with ⟨rfl, rfl⟩ | ⟨m, D, rfl, ho, hd⟩
  · have := Maps.look_nil ok law Try.underlying61 (zeroS_run w) (key_mk k hb)
    cases ok <;> exact this
  · have hh : Maps.has D (kl k) = false := by
      rw [hd.has k hb, List.any_eq_false]
      intro e he
      simpa using hk e he
    cases ok with
    | false =>
      obtain ⟨v, ps, hrun, hv⟩ := ho.lookup law Try.underlying61 (zeroS_run w) hz (key_mk k hb)
      rw [Maps.atKey_of_not_has hh] at hv
      rw [sel_at (.inl ⟨0, 0, rfl⟩) hv] at hrun
      exact hrun
    | true =>
      obtain ⟨v, ps, hrun, hv⟩ := ho.look_ok law Try.underlying61 (zeroS_run w) hz (key_mk k hb)
      rw [Maps.atKey_of_not_has hh] at hv
      rw [sel_at (.inl ⟨0, 0, rfl⟩) hv, hh] at hrun
      exact hrun
end Go.Proofs.Ytgbmigfamefenaa
