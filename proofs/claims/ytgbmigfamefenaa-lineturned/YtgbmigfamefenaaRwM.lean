/- Rows of a law's own; pieces. No walk stands here. -/
import Derived.Test.YtgbmigfamefenaaAdM
namespace Go.Proofs.Ytgbmigfamefenaa
open Go.Shelf Go.RowKit Go.Maps Go.Sort
set_option linter.unusedVariables false

theorem flat_get {α : Type} (f : α → List Value) (k : Nat) (hk : ∀ a, (f a).length = k) (l : List α) (i c : Nat) (hi : i < l.length) (hc : c < k) : (l.flatMap f)[i * k + c]? = (f l[i])[c]? := by
  induction l generalizing i with
  | nil => simp at hi
  | cons a l ih =>
    rw [List.flatMap_cons]
    cases i with
    | zero => rw [Nat.zero_mul, Nat.zero_add, List.getElem?_append_left (by rw [hk]; exact hc)]; rfl
    | succ i =>
      rw [List.getElem?_append_right (by rw [hk, Nat.succ_mul]; omega), hk, show (i + 1) * k + c - k = i * k + c by rw [Nat.succ_mul]; omega]
      exact ih i (by simpa using hi)
theorem flat_len {α : Type} (f : α → List Value) (k : Nat) (hk : ∀ a, (f a).length = k) (l : List α) : (l.flatMap f).length = l.length * k := by
  induction l with
  | nil => simp
  | cons a l ih => rw [List.flatMap_cons, List.length_append, ih, hk, List.length_cons, Nat.succ_mul]; omega
/-- A row of items that may be read: where its cells are. -/
theorem RdsK.flat {α : Type} (f : α → List Value) (k : Nat) (hk : ∀ a, (f a).length = k) (hk0 : 0 < k) {w : World} {v : Value} {l : List α} (h : RdsK k w v l.length (l.flatMap f)) : ∃ a c, v = .slice a l.length c ∧ l.length ≤ c ∧ c ≤ maxLen ∧ (0 < l.length → ∃ b o, a = some ⟨b, o, none⟩ ∧ ∀ i (hi : i < l.length) c u, (f l[i])[c]? = some u → w.cell? ⟨b, o + i * k + c, none⟩ = some u) := by
  obtain ⟨ao, cap, rfl, h0, h1, h2, h3, h4⟩ := h
  refine ⟨ao, cap, rfl, h1, h2, fun hp => ?_⟩
  cases ao with
  | none => have := (h3 rfl).1; omega
  | some ad =>
    obtain ⟨b, off, sp⟩ := ad
    have hc : ∀ j u, (l.flatMap f)[j]? = some u → _ := h4 _ rfl
    have hs : sp = none := by
      have hl : 0 < (f l[0]).length := by rw [hk]; exact hk0
      have hg : (l.flatMap f)[0 * k + 0]? = some ((f l[0])[0]'hl) := by rw [flat_get f k hk l 0 0 hp hk0, List.getElem?_eq_getElem hl]
      have := World.cell?_spot (hc _ _ hg)
      simpa [Addr.add] using this
    subst hs
    refine ⟨b, off, rfl, fun i hi c u hu => ?_⟩
    have hck : c < k := by have := (List.getElem?_eq_some_iff.1 hu).1; rw [hk] at this; exact this
    have := hc (i * k + c) u (by rw [flat_get f k hk l i c hi hck]; exact hu)
    rw [Addr.add_lit, ← Nat.add_assoc] at this
    exact this
/-- A row of a call's own that was changed at its end: its own block, or a new one. -/
structure Gr (w w' : World) (v v' : Value) : Prop where
  g : w.grownBy w' v.ownBlock
  nb : ∀ r, v'.ownBlock = some r → v.ownBlock = some r ∨ w.heap.size ≤ r
theorem grown_refl (w : World) (R : Option Nat) : w.grownBy w R := ⟨rfl, rfl, rfl, Nat.le_refl _, fun _ _ _ => rfl⟩
theorem Gr.refl (w : World) (v : Value) : Gr w w v v := ⟨grown_refl _ _, fun _ h => .inl h⟩
theorem Gr.trans {a b c : World} {u v x : Value} (h : Gr a b u v) (k : Gr b c v x) : Gr a c u x := by
  refine ⟨⟨k.g.os.trans h.g.os, k.g.tape.trans h.g.tape, k.g.output.trans h.g.output, Nat.le_trans h.g.size k.g.size, fun i hi hne => ?_⟩, fun r hr => ?_⟩
  · refine (k.g.block i (Nat.lt_of_lt_of_le hi h.g.size) fun q => ?_).trans (h.g.block i hi hne)
    rcases h.nb i q.symm with r | r
    · exact hne r.symm
    · omega
  · rcases k.nb r hr with q | q
    · exact h.nb r q
    · have := h.g.size; exact .inr (by omega)
theorem Gr.below {w w' w'' : World} {u v : Value} (h : Gr w w' u v) (hb : Below w'.heap.size w' w'') : Gr w w'' u v := h.trans ⟨grown_of_below hb _, fun _ h => .inl h⟩
theorem Gr.of {w w' : World} {u v : Value} (h : w.grownBy w' u.ownBlock) (hn : v.ownBlock = u.ownBlock ∨ ∃ g, v.ownBlock = some g ∧ w.heap.size ≤ g) : Gr w w' u v := by
  refine ⟨h, fun r hr => ?_⟩
  rcases hn with q | ⟨g, q, hg⟩
  · exact .inl (q ▸ hr)
  · rw [q] at hr; cases hr; exact .inr hg
theorem BxA.gr {w w' : World} {R : Option Nat} {g : Nat} {t : TypeId} {cs : Array Value} (h : BxA w g t cs) (hb : w.grownBy w' R) (hn : R ≠ some g) : BxA w' g t cs := by
  have hl := h.lt
  unfold BxA at h ⊢
  rw [hb.block _ hl fun q => hn q.symm]
  exact h
theorem owns_gr {w w' : World} {R : Option Nat} {base e k n : Nat} {v : Value} {l : List Value} (h : w.ownsRow base e k v n l) (hb : w.grownBy w' R) (hn : ∀ r, v.ownBlock = some r → R ≠ some r) : w'.ownsRow base e k v n l := owns_block h fun r hr => hb.block r (own_lt h r hr).2 fun q => hn r hr q.symm
theorem owns_below {w w' : World} {base e k n : Nat} {v : Value} {l : List Value} (h : w.ownsRow base e k v n l) (hb : Below w.heap.size w w') : w'.ownsRow base e k v n l := owns_block h fun r hr => hb.block r (own_lt h r hr).2
/-- Below, behind a row's change. -/
theorem Below.gr {n : Nat} {w w1 w2 : World} {R : Option Nat} (h : Below n w w1) (hn : n ≤ w1.heap.size) (g : w1.grownBy w2 R) (hR : ∀ r, R = some r → n ≤ r) : Below n w w2 := h.trans ⟨g.os, g.tape, g.output, g.size, fun i hi => g.block i (by omega) fun q => by have := hR i q.symm; omega⟩
theorem sgc_len (g : Sg) : (sgc g).length = 5 := rfl
/-- Where a segment's cells are. -/
structure AtG (w : World) (b o : Nat) (g : Sg) : Prop where
  c0 : w.cell? ⟨b, o, none⟩ = some (.int .i64 g.1.1)
  c1 : w.cell? ⟨b, o + 1, none⟩ = some (.int .i64 g.1.2.1)
  c2 : w.cell? ⟨b, o + 2, none⟩ = some (.int .i64 g.1.2.2)
  c3 : w.cell? ⟨b, o + 3, none⟩ = some (.int .i64 g.2.1)
  c4 : w.cell? ⟨b, o + 4, none⟩ = some (.int .i64 g.2.2)
theorem RdsK.segs {w : World} {v : Value} {l : List Sg} (h : RdsK 5 w v l.length (sgcs l)) : ∃ a c, v = .slice a l.length c ∧ l.length ≤ c ∧ c ≤ maxLen ∧ (0 < l.length → ∃ b o, a = some ⟨b, o, none⟩ ∧ ∀ i (hi : i < l.length), AtG w b (o + i * 5) l[i]) := by
  obtain ⟨a, c, h1, h2, h3, h4⟩ := RdsK.flat sgc 5 sgc_len (by omega) h
  refine ⟨a, c, h1, h2, h3, fun hp => ?_⟩
  obtain ⟨b, o, e, hc⟩ := h4 hp
  exact ⟨b, o, e, fun i hi => ⟨hc i hi 0 _ rfl, hc i hi 1 _ rfl, hc i hi 2 _ rfl, hc i hi 3 _ rfl, hc i hi 4 _ rfl⟩⟩
/-- Pieces. -/
def pcc (p : Pc) : List Value := sgc p.1 ++ [.int .i64 p.2.1, .int .i64 p.2.2]
def pccs (l : List Pc) : List Value := l.flatMap pcc
theorem pcc_len (p : Pc) : (pcc p).length = 7 := rfl
theorem pccs_append (l m : List Pc) : pccs (l ++ m) = pccs l ++ pccs m := by simp [pccs]
theorem Try.info_piece : (Try.prog.info? 34).map (fun i => (i.zero, i.size, i.bytes)) = some (some (.agg #[.int .i64 0, .int .i64 0, .int .i64 0, .int .i64 0, .int .i64 0, .int .i64 0, .int .i64 0]), 7, 56) := by kernel_rfl
structure AtP (w : World) (b o : Nat) (p : Pc) : Prop where
  g : AtG w b o p.1
  c5 : w.cell? ⟨b, o + 5, none⟩ = some (.int .i64 p.2.1)
  c6 : w.cell? ⟨b, o + 6, none⟩ = some (.int .i64 p.2.2)
theorem RdsK.pieces {w : World} {v : Value} {l : List Pc} (h : RdsK 7 w v l.length (pccs l)) : ∃ a c, v = .slice a l.length c ∧ l.length ≤ c ∧ c ≤ maxLen ∧ (0 < l.length → ∃ b o, a = some ⟨b, o, none⟩ ∧ ∀ i (hi : i < l.length), AtP w b (o + i * 7) l[i]) := by
  obtain ⟨a, c, h1, h2, h3, h4⟩ := RdsK.flat pcc 7 pcc_len (by omega) h
  refine ⟨a, c, h1, h2, h3, fun hp => ?_⟩
  obtain ⟨b, o, e, hc⟩ := h4 hp
  exact ⟨b, o, e, fun i hi => ⟨⟨hc i hi 0 _ rfl, hc i hi 1 _ rfl, hc i hi 2 _ rfl, hc i hi 3 _ rfl, hc i hi 4 _ rfl⟩, hc i hi 5 _ rfl, hc i hi 6 _ rfl⟩⟩
/-- Pieces, stretch by stretch. -/
theorem lkF_no {s : List Es} {a b : Int} {out : List S3} {i : Nat} (hi : i < out.length) (h : ¬ max out[i].2.1 a < min out[i].2.2 b) : lkF s (cutS a b (out.take (i + 1))) = lkF s (cutS a b (out.take i)) := by
  rw [List.take_succ_eq_append_getElem hi]
  unfold cutS
  rw [List.flatMap_append, List.flatMap_cons, List.flatMap_nil, List.append_nil]
  unfold cut1
  rw [if_neg h, List.append_nil]
theorem lkF_yes {s : List Es} {a b : Int} {out : List S3} {i : Nat} (hi : i < out.length) (h : max out[i].2.1 a < min out[i].2.2 b) : lkF s (cutS a b (out.take (i + 1))) = lkF s (cutS a b (out.take i)) ++ (segL s [out[i].1]).map fun g => (g, max out[i].2.1 a, min out[i].2.2 b) := by
  rw [List.take_succ_eq_append_getElem hi]
  unfold cutS
  rw [List.flatMap_append, List.flatMap_cons, List.flatMap_nil, List.append_nil]
  unfold cut1
  rw [if_pos h]
  unfold lkF
  rw [List.flatMap_append, List.flatMap_cons, List.flatMap_nil, List.append_nil]
  unfold pcs segL
  rw [List.flatMap_cons, List.flatMap_nil, List.append_nil]
theorem sgsOf_len {s : List Es} {m : Nat} (h : ∀ e ∈ s, e.2.2.length ≤ m) (k : K3) : (sgsOf s k).length ≤ m := by
  unfold sgsOf
  split
  · rename_i e he
    rw [List.length_map]
    exact h e (List.mem_of_find?_eq_some he)
  · simp
theorem lkF_len {s : List Es} {m : Nat} (h : ∀ e ∈ s, e.2.2.length ≤ m) (a b : Int) (out : List S3) : (lkF s (cutS a b out)).length ≤ out.length * m := by
  induction out with
  | nil => simp [cutS, lkF]
  | cons t out ih =>
    unfold cutS lkF at *
    rw [List.flatMap_cons, List.flatMap_append, List.length_append, List.length_cons, Nat.succ_mul]
    have h1 : ((cut1 a b t).flatMap (pcs s)).length ≤ m := by
      unfold cut1
      split
      · rw [List.flatMap_cons, List.flatMap_nil, List.append_nil]
        unfold pcs
        rw [List.length_map]
        exact sgsOf_len h _
      · simp
    omega
theorem segL_len {s : List Es} {m : Nat} (h : ∀ e ∈ s, e.2.2.length ≤ m) (ks : List K3) : (segL s ks).length ≤ ks.length * m := by
  unfold segL
  induction ks with
  | nil => simp
  | cons k ks ih =>
    rw [List.flatMap_cons, List.length_append, List.length_cons, Nat.succ_mul]
    have := sgsOf_len h k
    omega
end Go.Proofs.Ytgbmigfamefenaa
