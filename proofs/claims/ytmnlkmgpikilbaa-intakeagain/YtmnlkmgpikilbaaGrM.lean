/- Facts by the spans of their times, as they lie in memory. No walk stands here. -/
import Derived.Test.YtmnlkmgpikilbaaMpE
import Derived.Test.YtmnlkmgpikilbaaGro
namespace Go.Proofs.Ytmnlkmgpikilbaa
open Go.RowKit Go.Maps Go.ChangeMaps
set_option linter.unusedVariables false

/-- Facts without lists, by their times. -/
def fcs (l : List Int) : List Value := l.flatMap fun t => [.int .i64 t, .slice none 0 0, .slice none 0 0]
theorem fcs_length (l : List Int) : (fcs l).length = l.length * 3 := by
  unfold fcs
  induction l with
  | nil => rfl
  | cons a l ih => rw [List.flatMap_cons, List.length_append, ih]; simp; omega
theorem fcs_append (l m : List Int) : fcs (l ++ m) = fcs l ++ fcs m := by simp [fcs]
def sD (v : Value) : DataW Unit := match v with
  | .slice none n m => .agg [.nil, .lit (.int .i64 (n : Int)), .lit (.int .i64 (m : Int))]
  | .slice (some a) n m => .agg [.lit (.int .i64 (a.block : Int)), .lit (.int .i64 (n : Int)), .lit (.int .i64 (m : Int))]
  | _ => .nil
def Flat (v : Value) : Prop := (∃ n m, v = .slice none n m) ∨ ∃ g n m, v = .slice (some ⟨g, 0, none⟩) n m
theorem flat_own {w : World} {base e k n : Nat} {v : Value} {xs : List Value} (h : w.ownsRow base e k v n xs) : Flat v := by
  rcases h.2 with ⟨h1, _⟩ | ⟨g, cap, cur, h1, _⟩
  · exact .inl ⟨_, _, h1⟩
  · exact .inr ⟨_, _, _, h1⟩
theorem sel_mk {v : Value} (h : Flat v) : sel v = some (sD v, []) := by
  rcases h with ⟨n, m, rfl⟩ | ⟨g, n, m, rfl⟩ <;> rfl
theorem sel_at {u v : Value} (hv : Flat v) {ps : List MemPlace} (h : sel u = some (sD v, ps)) : u = v := by
  unfold sel at h
  split at h
  · rename_i n m
    rcases hv with ⟨n', m', rfl⟩ | ⟨g, n', m', rfl⟩
    · simp only [sD, Option.some.injEq, Prod.mk.injEq, DataW.agg.injEq, List.cons.injEq, DataW.lit.injEq, Lit.int.injEq, true_and] at h
      obtain ⟨⟨h2, h3, -⟩, -⟩ := h
      have a1 : n = n' := by omega
      have a2 : m = m' := by omega
      rw [a1, a2]
    · simp [sD] at h
  · rename_i g n m
    rcases hv with ⟨n', m', rfl⟩ | ⟨g', n', m', rfl⟩
    · simp [sD] at h
    · simp only [sD, Option.some.injEq, Prod.mk.injEq, DataW.agg.injEq, List.cons.injEq, DataW.lit.injEq, Lit.int.injEq, true_and] at h
      obtain ⟨⟨h1, h2, h3, -⟩, -⟩ := h
      have a0 : g = g' := by omega
      have a1 : n = n' := by omega
      have a2 : m = m' := by omega
      rw [a0, a1, a2]
  · cases h
/-- The facts of one span. -/
def ofK (sp : Int → K2) (ps : List Int) (k : K2) : List Int := ps.filter fun t => sp t == k
theorem ofK_snoc (sp : Int → K2) (ps : List Int) (t : Int) (k : K2) : ofK sp (ps ++ [t]) k = if sp t = k then ofK sp ps k ++ [t] else ofK sp ps k := by
  unfold ofK
  rw [List.filter_append]
  by_cases h : sp t = k <;> simp [h]
theorem ofK_le (sp : Int → K2) (ps : List Int) (k : K2) : (ofK sp ps k).length ≤ ps.length := List.length_filter_le _ _
/-- What the groups are: each span's list; what the map says of it. -/
structure GvZ (w : World) (base m : Nat) (sp : Int → K2) (ps : List Int) (gv : K2 → Value) (D : DataW Unit) : Prop where
  at' : ∀ k, B2 k → D.atKey (kl k) (sD (.slice none 0 0)) = sD (gv k)
  has : ∀ k, B2 k → (Maps.has D (kl k) = true ↔ ∃ t ∈ ps, sp t = k)
  row : ∀ k, w.ownsRow base 38 3 (gv k) (ofK sp ps k).length (fcs (ofK sp ps k))
  ap : ∀ k k', k ≠ k' → ∀ b, (gv k).ownBlock = some b → (gv k').ownBlock ≠ some b
  td : Tidy D
  sz : Maps.size D ≤ ps.length
structure GrZ (w0 w : World) (m : Nat) (sp : Int → K2) (ps : List Int) (gv : K2 → Value) (D : DataW Unit) : Prop where
  mp : w.ownsMap Try.prog 67 sel m ps.length D
  g : GvZ w w0.heap.size m sp ps gv D
  ms : w0.heap.size ≤ m
  bl : Below w0.heap.size w0 w
theorem own_blk {w w' : World} {base e k n : Nat} {v : Value} {xs : List Value} (h : w.ownsRow base e k v n xs) (hb : ∀ r, v.ownBlock = some r → w'.heap[r]? = w.heap[r]?) : w'.ownsRow base e k v n xs := by
  refine ⟨h.1, ?_⟩
  rcases h.2 with h2 | ⟨g, cap, cur, h1, h2, h3, h4⟩
  · exact .inl h2
  · refine .inr ⟨g, cap, cur, h1, h2, ?_, h4⟩
    rw [hb g (by rw [h1]; rfl)]
    exact h3
theorem GvZ.keep {w w' : World} {base m : Nat} {sp : Int → K2} {ps : List Int} {gv : K2 → Value} {D : DataW Unit} (h : GvZ w base m sp ps gv D) (hb : ∀ k r, (gv k).ownBlock = some r → w'.heap[r]? = w.heap[r]?) : GvZ w' base m sp ps gv D :=
  ⟨h.at', h.has, fun k => own_blk (h.row k) (hb k), h.ap, h.td, h.sz⟩
theorem GvZ.lt {w : World} {base m : Nat} {sp : Int → K2} {ps : List Int} {gv : K2 → Value} {D : DataW Unit} (h : GvZ w base m sp ps gv D) (k : K2) (r : Nat) (hr : (gv k).ownBlock = some r) : base ≤ r ∧ r < w.heap.size := World.ownsRow.lt (h.row k) r hr
theorem GvZ.ne {w : World} {base m : Nat} {sp : Int → K2} {ps : List Int} {gv : K2 → Value} {D : DataW Unit} (h : GvZ w base m sp ps gv D) {es : Array MapEntry} {clock : Nat} (hm : w.heap[m]? = some (.map es clock)) (k : K2) : (gv k).ownBlock ≠ some m := fun e => by
  rcases (h.row k).2 with ⟨h1, _⟩ | ⟨g, cap, cur, h1, _, h3, _⟩
  · rw [h1] at e; cases e
  · rw [h1] at e
    have : g = m := by simpa [Value.ownBlock] using e
    rw [this, hm] at h3
    cases h3
theorem map_blk {P : Program} {k : TypeId} {R : Value → Option (DataW Unit × List MemPlace)} {w : World} {m n : Nat} {D : DataW Unit} (h : w.ownsMap P k R m n D) : ∃ es clock, w.heap[m]? = some (.map es clock) := by
  obtain ⟨es, clock, h1, h2⟩ := h
  exact ⟨es, clock, h1⟩
theorem map_keep {P : Program} {k : TypeId} {R : Value → Option (DataW Unit × List MemPlace)} {w w' : World} {m n : Nat} {D : DataW Unit} (h : w.ownsMap P k R m n D) (hb : w'.heap[m]? = w.heap[m]?) : w'.ownsMap P k R m n D := by
  obtain ⟨es, clock, h1, h2⟩ := h
  exact ⟨es, clock, hb.trans h1, h2⟩
theorem GrZ.up {w0 w w' : World} {m : Nat} {sp : Int → K2} {ps : List Int} {gv : K2 → Value} {D : DataW Unit} (h : GrZ w0 w m sp ps gv D) (hb : Below w.heap.size w w') : GrZ w0 w' m sp ps gv D :=
  ⟨map_keep h.mp (hb.block m h.mp.lt), h.g.keep fun k r hr => hb.block r (h.g.lt k r hr).2, h.ms, h.bl.trans (hb.mono h.bl.size)⟩
/-- In the midst of 'm[k] = append(m[k], x)': the entry has been taken. -/
structure GrM (w0 w : World) (m : Nat) (sp : Int → K2) (ps : List Int) (gv : K2 → Value) (D : DataW Unit) (k : K2) (born : Nat) : Prop where
  st : ∃ es1 clock1, w.heap[m]? = some (.map es1 clock1) ∧ ∀ (w5 : World) (val : Value) (d : DataW Unit) (pv : List MemPlace), w5.heap[m]? = some (.map es1 clock1) → sel val = some (d, pv) →
    ∃ w6, (Instr.entryStore 100 (.map (some m)) (.int .i64 (born : Int)) val).run Try.prog w5 = .ok () w6 ∧ w6.ownsMap Try.prog 67 sel m (ps.length + 1) (D.put (kl k) d) ∧ w5.mapTurned w6 m
  g : GvZ w w0.heap.size m sp ps gv D
  ms : w0.heap.size ≤ m
  bl : Below w0.heap.size w0 w
theorem GrM.up {w0 w w' : World} {m : Nat} {sp : Int → K2} {ps : List Int} {gv : K2 → Value} {D : DataW Unit} {k : K2} {born : Nat} (h : GrM w0 w m sp ps gv D k born) (hb : Below w.heap.size w w') : GrM w0 w' m sp ps gv D k born := by
  obtain ⟨es1, clock1, h1, h2⟩ := h.st
  exact ⟨⟨es1, clock1, (hb.block m (Array.getElem?_eq_some_iff.1 h1).1).trans h1, h2⟩, h.g.keep fun k r hr => hb.block r (h.g.lt k r hr).2, h.ms, h.bl.trans (hb.mono h.bl.size)⟩
theorem GrZ.entry {w0 w : World} {m : Nat} {sp : Int → K2} {ps : List Int} {gv : K2 → Value} {D : DataW Unit} (h : GrZ w0 w m sp ps gv D) (k : K2) (hk : B2 k) (hn : ps.length < maxLen) :
    ∃ (born : Nat) (w' : World), (Instr.mapEntry 100 (.map (some m)) (kv k)).run Try.prog w = .ok (.tuple #[gv k, .int .i64 (born : Int)]) w' ∧ GrM w0 w' m sp ps gv D k born ∧ w'.heap.size = w.heap.size ∧ (∀ i, i ≠ m → w'.heap[i]? = w.heap[i]?) ∧ Below w0.heap.size w w' := by
  obtain ⟨born, v, pv, es1, clock1, hne, hrun, hv, hst⟩ := entry_law h.mp law Try.underlying100 hn (key_mk k hk) (z := .slice none 0 0) (fun w' => Try.zeroValue43 w') (dz := sD (.slice none 0 0)) (pz := []) rfl
  rw [h.g.at' k hk] at hv
  have hvg := sel_at (flat_own (h.g.row k)) hv
  subst hvg
  obtain ⟨es, clock, hb⟩ := map_blk h.mp
  have ho : ∀ i, i ≠ m → (setBlock w m (.map es1 clock1)).heap[i]? = w.heap[i]? := fun i hi => heap_setBlock_other hb _ hi
  have hs : (setBlock w m (.map es1 clock1)).heap.size = w.heap.size := by unfold setBlock; simp
  have hbw : Below w0.heap.size w (setBlock w m (.map es1 clock1)) := ⟨rfl, rfl, rfl, by rw [hs]; exact Nat.le_refl _, fun i hi => ho i (by have := h.ms; omega)⟩
  exact ⟨born, _, hrun, ⟨⟨es1, clock1, heap_setBlock_same hb _, hst⟩, h.g.keep fun k r hr => ho r fun e => h.g.ne hb k (e ▸ hr), h.ms, h.bl.trans hbw⟩, hs, ho, hbw⟩
abbrev fc1 (t : Int) : List Value := [.int .i64 t, .slice none 0 0, .slice none 0 0]
theorem kl_ne {a b : K2} (ha : B2 a) (hb : B2 b) (h : a ≠ b) : kl a ≠ kl b := fun e => h (kl_inj ha hb e)
theorem GrM.ap' {w0 w : World} {m : Nat} {sp : Int → K2} {ps : List Int} {gv : K2 → Value} {D : DataW Unit} {k : K2} {born : Nat} (h : GrM w0 w m sp ps gv D k born) (q k' : K2) (hne : q ≠ k') (b : Nat) (hb : (gv q).ownBlock = some b) : (gv k').ownBlock ≠ some b := h.g.ap q k' hne b hb
theorem GrM.done {w0 w w' : World} {m : Nat} {sp : Int → K2} {ps : List Int} {gv : K2 → Value} {D : DataW Unit} {k : K2} {born : Nat} (h : GrM w0 w m sp ps gv D k born) (hk : B2 k) (t : Int) (ht : sp t = k) {v' : Value}
    (hown : w'.ownsRow w0.heap.size 38 3 v' ((ofK sp ps k).length + 1) (fcs (ofK sp ps k) ++ fc1 t)) (hg : w.grownBy w' (gv k).ownBlock) (hv : v'.ownBlock = (gv k).ownBlock ∨ ∃ g, v'.ownBlock = some g ∧ w.heap.size ≤ g) :
    ∃ w6 gv' D', (Instr.entryStore 100 (.map (some m)) (.int .i64 (born : Int)) v').run Try.prog w' = .ok () w6 ∧ GrZ w0 w6 m sp (ps ++ [t]) gv' D' := by
  obtain ⟨es1, clock1, h1, h2⟩ := h.st
  have hml : m < w.heap.size := (Array.getElem?_eq_some_iff.1 h1).1
  have hmk : some m ≠ (gv k).ownBlock := fun e => h.g.ne h1 k e.symm
  have h1' : w'.heap[m]? = some (.map es1 clock1) := (hg.block m hml hmk).trans h1
  obtain ⟨w6, hrun, hmap, hturn⟩ := h2 w' v' (sD v') [] h1' (sel_mk (flat_own hown))
  have hg6 := hturn.grown
  have hvb : ∀ b, v'.ownBlock = some b → w0.heap.size ≤ b ∧ b ≠ m := fun b hb => by
    have q := World.ownsRow.lt hown b hb
    refine ⟨q.1, fun e => ?_⟩
    rcases hown.2 with ⟨e1, _⟩ | ⟨g', cap, cur, e1, _, e3, _⟩
    · rw [e1] at hb; cases hb
    · rw [e1] at hb
      have : g' = b := by simpa [Value.ownBlock] using hb
      rw [this, e, h1'] at e3
      cases e3
  have hdiff : ∀ q, q ≠ k → ∀ b, (gv q).ownBlock = some b → v'.ownBlock ≠ some b := fun q hq b hb hv' => by
    rcases hv with e | ⟨g, e, hge⟩
    · rw [e] at hv'
      exact h.ap' q k hq b hb hv'
    · rw [e] at hv'
      injection hv' with hv'
      have := (h.g.lt q b hb).2
      omega
  have htd := h.g.td
  have hbl : Below w0.heap.size w0 w6 := by
    have b1 : Below w0.heap.size w w' := ⟨hg.os, hg.tape, hg.output, hg.size, fun i hi => hg.block i (by have := h.bl.size; omega) fun e => by have := (h.g.lt k i e.symm).1; omega⟩
    have b2 : Below w0.heap.size w' w6 := ⟨hg6.os, hg6.tape, hg6.output, hg6.size, fun i hi => hg6.block i (by have := h.bl.size; have := hg.size; omega) fun e => by injection e with e; have := h.ms; omega⟩
    exact (h.bl.trans b1).trans b2
  refine ⟨w6, fun q => if q = k then v' else gv q, _, hrun, ⟨by rw [List.length_append]; exact hmap, ⟨fun q hq => ?_, fun q hq => ?_, fun q => ?_, fun q q' hne b hb => ?_, ?_, ?_⟩, h.ms, hbl⟩⟩
  · by_cases e : q = k
    · subst e
      rw [if_pos rfl, atKey_put_same htd.isMap (kl_key _ hq)]
    · rw [if_neg e, atKey_put_other (kl_ne hq hk e)]
      exact h.g.at' q hq
  · by_cases e : q = k
    · subst e
      rw [has_put_same htd.isMap (kl_key _ hq)]
      exact ⟨fun _ => ⟨t, by simp, ht⟩, fun _ => rfl⟩
    · rw [has_put_other (kl_ne hq hk e), h.g.has q hq]
      constructor
      · rintro ⟨t', h1, h2⟩
        exact ⟨t', by simp [h1], h2⟩
      · rintro ⟨t', h1, h2⟩
        rcases List.mem_append.1 h1 with h1 | h1
        · exact ⟨t', h1, h2⟩
        · simp at h1
          subst h1
          exact absurd (h2.symm.trans ht) e
  · rw [ofK_snoc]
    by_cases e : q = k
    · subst e
      rw [if_pos rfl, if_pos ht, List.length_append, fcs_append]
      refine own_blk hown fun r hr => hg6.block r (World.ownsRow.lt hown r hr).2 fun e => (hvb r hr).2 (by injection e)
    · rw [if_neg e, if_neg (fun e' => e (e'.symm.trans ht))]
      refine own_blk (own_blk (h.g.row q) fun r hr => hg.block r (h.g.lt q r hr).2 fun e' => h.ap' q k e r hr e'.symm) fun r hr => hg6.block r (by have := (h.g.lt q r hr).2; have := hg.size; omega) fun e' => by injection e' with e'; exact h.g.ne h1 q (e' ▸ hr)
  · by_cases e : q = k
    · subst e
      rw [if_pos rfl] at hb
      rw [if_neg (Ne.symm hne)]
      exact fun h' => hdiff q' (Ne.symm hne) b h' hb
    · rw [if_neg e] at hb
      by_cases e' : q' = k
      · rw [if_pos e']; exact hdiff q e b hb
      · rw [if_neg e']; exact h.g.ap q q' hne b hb
  · exact htd.put (kl_key _ hk) _
  · rw [size_put htd, List.length_append]
    have := h.g.sz
    simp only [List.length_singleton]
    split <;> omega
end Go.Proofs.Ytmnlkmgpikilbaa
