/- Bytes behind bytes, strings of bytes, constants. -/
import Derived.Test.YthegdhbmfojdaaaWNums
import Derived.Laws.AppendOwnNone
import Derived.Lib.SlBytesConst
import Derived.Laws.BytesArg
import Derived.Outline
namespace Go.Proofs.Ythegdhbmfojdaaa.Wi
open Go.RowKit

theorem Owns.mono {w : World} {base base' : Nat} {v : Value} {l : List UInt8} (h : Owns w base v l) (hb : base' ≤ base) : Owns w base' v l := by
  refine ⟨h.1, ?_⟩
  rcases h.2 with h2 | ⟨g, cap, cur, h1, h2, h3⟩
  · exact .inl h2
  · exact .inr ⟨g, cap, cur, h1, by omega, h3⟩
theorem Owns.below {w w' : World} {base : Nat} {v : Value} {l : List UInt8} (h : Owns w base v l) (hb : Below w.heap.size w w') : Owns w' base v l := by
  refine ⟨h.1, ?_⟩
  rcases h.2 with h2 | ⟨g, cap, cur, h1, h2, h3, h4⟩
  · exact .inl h2
  · refine .inr ⟨g, cap, cur, h1, h2, ?_, h4⟩
    rw [hb.block g (Array.getElem?_eq_some_iff.1 h3).1]
    exact h3
theorem Owns.some {w : World} {base : Nat} {v : Value} {l : List UInt8} (h : Owns w base v l) (hl : 0 < l.length) :
    ∃ g cap, v = .slice (.some ⟨g, 0, none⟩) l.length cap ∧ base ≤ g ∧ ∀ j u, (bv l)[j]? = .some u → w.cell? ((⟨g, 0, none⟩ : Addr).add j) = .some u := by
  rcases h.2 with ⟨_, hn⟩ | ⟨g, cap, cur, rfl, h2, h3, h4⟩
  · omega
  · exact ⟨g, cap, rfl, h2, fun j u hj => World.ownsRow.cells h rfl j u hj⟩

theorem app_owns {w1 : World} {base : Nat} {v1 : Value} {a b : List UInt8} (h : w1.ownsRow base 5 1 v1 (a.length + b.length) (bv a ++ bv b)) : Owns w1 base v1 (a ++ b) := by
  unfold Owns
  rw [bv_append, List.length_append]; exact h

/-- 'append(x, y...)' where x is an owned row of bytes or nil and y reads as bytes, nil or not. -/
theorem wp_app {w : World} {ops : Array Oper} {rest : List Oper} {o : Oper} {a : Act} {Q : Exit → Act → World → Prop} (hgd : o.guard = none) (s x : Operand)
    (ho : o.op = .call { callee := .builtin .append, args := #[s, x], argTypes := #[33, 33] }) (base : Nat) (v : Value) (l m : List UInt8) (hs : a.eval s = v) (hown : Owns w base v l)
    (ao : Option Addr) (n cap : Nat) (hx : a.eval x = .slice ao n cap) (hn : n = m.length) (hnone : ao = none → m.length = 0 ∧ cap = 0)
    (hsrc : ∀ ad, ao = .some ad → ∀ j u, (bv m)[j]? = .some u → w.cell? (ad.add j) = .some u) (hb : l.length + m.length ≤ 140737488355328) (hbase : base ≤ w.heap.size)
    (h : ∀ v' w', Owns w' base v' (l ++ m) → w.grownBy w' v.ownBlock → wpList Try.prog ops Q rest (a.put o.dst v') w') : wpList Try.prog ops Q (o :: rest) a w := by
  subst hn
  obtain ⟨i0, hi, hz0, hz1, hz2⟩ := info_parts Try.info5
  cases ao with
  | none =>
    obtain ⟨h0, rfl⟩ := hnone rfl
    obtain rfl : m = [] := List.eq_nil_of_length_eq_zero h0
    refine wpList_append_own_none hgd s x 33 ho base 5 i0 1 Try.underlying33 hi v _ _ hs hown hx ?_
    refine h v w ?_ (World.grownBy.refl _ _)
    rw [List.append_nil]; exact hown
  | some ad =>
    refine wpList_append_own _ hgd s x 33 ho base 5 i0 (.int .u8 0) 1 1 Try.underlying33 hi hz0 hz1 hz2 rfl (by decide) v _ _ hs hown ad m.length cap (bv m) hx (by simp [bv_length]) (hsrc ad rfl) (bv_one m) (by unfold maxLen; omega) (by omega) hbase ?_
    intro v' w' ho' hg' _
    exact h v' w' (app_owns ho') hg'

theorem Reads.src {w w' : World} {ao : Option Addr} {n cap : Nat} {l : List UInt8} (h : Reads w (.slice ao n cap) l) (hb : Below w.heap.size w w') :
    n = l.length ∧ (ao = none → l.length = 0 ∧ cap = 0) ∧ ∀ ad, ao = .some ad → ∀ j u, (bv l)[j]? = .some u → w'.cell? (ad.add j) = .some u := by
  obtain ⟨ao', cap', he, h1, h2, h3, h4⟩ := h.below hb
  simp only [Value.slice.injEq] at he
  obtain ⟨rfl, rfl, rfl⟩ := he
  exact ⟨rfl, h3, h4⟩

theorem grown_below {base : Nat} {w wr w1 : World} {u : Value} {l : List UInt8} (hbel : Below base w wr) (hb : base ≤ wr.heap.size) (hown : Owns wr base u l) (hg : wr.grownBy w1 u.ownBlock) : Below base w w1 :=
  hbel.grown hg hb (fun k hk => (World.ownsRow.lt hown k hk).1)

/-- The string of bytes. -/
theorem conv_string (w : World) (v : Value) (l : List UInt8) (h : Reads w v l) : (convert 33 9 v).run Try.prog w = .ok (.string ⟨l.toArray⟩) w := by
  obtain ⟨ao, cap, rfl, h1, h2, h3, h4⟩ := h
  cases ao with
  | none =>
    obtain ⟨h0, rfl⟩ := h3 rfl
    obtain rfl : l = [] := List.eq_nil_of_length_eq_zero h0
    exact run_convert_bytes_nil w 33 5 Try.underlying33 Try.underlying5 0 0 9 Try.underlying9
  | some ad =>
    have hl : (loadCells ad l.length).run Try.prog w = .ok ((l.map fun c => (c.toNat : Int)).map (Value.int .u8)).toArray w := by
      have := run_loadCells_list (P := Try.prog) w ad (bv l) (h4 ad rfl)
      rw [bv_length] at this
      rw [this, List.map_map]; rfl
    rw [run_convert_bytes_string w 33 9 5 _ _ _ Try.underlying33 Try.underlying5 Try.underlying9, run_bytesToString w ad l.length cap _ hl, foldl_push_bytes]
    simp [Function.comp_def]

/-- A constant's bytes in their new row. -/
theorem const_reads (w : World) (l : List UInt8) (fr : Nat × Nat) (n : Nat) (hn : n = l.length) (hm : l.length ≤ maxLen) (C : Array Value) (hC : C = (bv l).toArray) :
    Reads (w.alloc (.cells C 5 fr)) (.slice (some ⟨w.heap.size, 0, none⟩) n n) l := by
  subst hn hC
  refine ⟨_, _, rfl, Nat.le_refl _, hm, (fun h => by cases h), ?_⟩
  rintro ad ⟨rfl⟩
  intro j u hj
  rw [Addr.add_lit]
  have : (w.alloc (.cells (bv l).toArray 5 fr)).heap[w.heap.size]? = some (.cells (bv l).toArray 5 fr) := by
    show (w.heap.push _)[w.heap.size]? = _
    simp
  unfold World.cell?
  simp only
  rw [this]
  simpa using hj

theorem Owns.shape {w : World} {base : Nat} {v : Value} {l : List UInt8} (h : Owns w base v l) (n : Nat) (hn : l.length = n) : ∃ a c, v = .slice a n c := by
  subst hn
  obtain ⟨a, c, e, _⟩ := h.reads
  exact ⟨a, c, e⟩

/-- The cells of a slice that isn't nil. -/
def At (w : World) (b off : Nat) (l : List UInt8) : Prop := ∀ j u, (bv l)[j]? = some u → w.cell? ⟨b, off + j, none⟩ = some u
theorem At.reads {w : World} {b off c : Nat} {l : List UInt8} (h : At w b off l) (hc : l.length ≤ c) (hm : c ≤ maxLen) (n : Nat) (hn : n = l.length) : Reads w (.slice (some ⟨b, off, none⟩) n c) l := by
  subst hn
  refine ⟨_, _, rfl, hc, hm, (fun h => by cases h), ?_⟩
  rintro ad ⟨rfl⟩
  exact fun j u hj => by rw [Addr.add_lit]; exact h j u hj
theorem At.part {w : World} {b off : Nat} {l : List UInt8} (h : At w b off l) (i m : Nat) : At w b (off + i) ((l.drop i).take m) := by
  intro j u hj
  have hj' : (bv l)[i + j]? = some u := by
    simp only [bv, List.getElem?_map, List.getElem?_take, List.getElem?_drop] at hj ⊢
    split at hj
    · exact hj
    · simp at hj
  have := h (i + j) u hj'
  rw [Nat.add_assoc]; exact this
end Go.Proofs.Ythegdhbmfojdaaa.Wi
