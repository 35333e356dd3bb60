/- A disk and the reference's, side by side in memory. -/
import Derived.Test.YthegdhbmfojdaaaRb3
import Derived.Test.YthegdhbmfojdaaaAw
import Derived.Test.YthegdhbmfojdaaaNum
namespace Go.Proofs.Ythegdhbmfojdaaa
open Go.RowKit Go.Maps Go.Sort
set_option linter.unusedVariables false

theorem Reads.fraR {w w' : World} {F : Nat → Prop} {u : Value} {b : Str} {n : Nat} (h : Reads w u b) (hc : ∀ ad k c, u = .slice (some ad) k c → 0 < b.length → ad.block < n) (hF : ∀ i, F i → n ≤ i) (hf : Fr F w w') : Reads w' u b := by
  obtain ⟨ao, cap, rfl, h1, h2, h3, h4⟩ := h
  refine ⟨ao, cap, rfl, h1, h2, h3, fun ad ha j u hj => ?_⟩
  have hl : 0 < b.length := by have := (List.getElem?_eq_some_iff.1 hj).1; rw [bv_length] at this; omega
  have hc4 := h4 ad ha j u hj
  have hb : (ad.add j).block = ad.block := by simp only [Addr.add]; split <;> rfl
  have hlt := hc ad _ _ (by rw [ha]) hl
  rw [cell_blk (hf.block _ (World.block_lt_of_cell? _ _ hc4) (by rw [hb]; intro hF'; have := hF _ hF'; omega)), hc4]
theorem Reads.blkR {w : World} {u : Value} {b : Str} (h : Reads w u b) : ∀ ad k c, u = .slice (some ad) k c → 0 < b.length → ad.block < w.heap.size := by
  obtain ⟨ao, cap, rfl, h1, h2, h3, h4⟩ := h
  intro ad k c e hl
  cases e
  have := World.block_lt_of_cell? _ _ (h4 ad rfl 0 _ (bv_get b 0 hl))
  have hb : (ad.add 0).block = ad.block := by simp only [Addr.add]; split <;> rfl
  omega
theorem Dk.moreR {w : World} {d N M : Nat} {F : Nat → Prop} {s : St} (h : Dk w d F N s) (hm : N ≤ M) : Dk w d F M s := by
  obtain ⟨mo, Z, h⟩ := h
  exact ⟨mo, Z, h.b, h.f, h.m, h.fm, h.e, h.ap, h.fs, fun x hx => Nat.le_trans (h.n x hx) hm, h.nm, h.few, h.ops, h.lt⟩
theorem Rd.more {w : World} {d N M : Nat} {F : Nat → Prop} {s : RSt} (h : Rd w d F N s) (hm : N ≤ M) : Rd w d F M s := by
  obtain ⟨Lv, Z, h⟩ := h
  exact ⟨Lv, Z, h.more hm⟩
theorem Dk.ltR {w : World} {d N : Nat} {F : Nat → Prop} {s : St} (h : Dk w d F N s) : ∀ i, F i → i < w.heap.size := by
  obtain ⟨mo, Z, h⟩ := h
  exact h.lt
theorem Rd.lt {w : World} {d N : Nat} {F : Nat → Prop} {s : RSt} (h : Rd w d F N s) : ∀ i, F i → i < w.heap.size := by
  obtain ⟨Lv, Z, h⟩ := h
  exact h.lt
/-- A store, its disk and the reference's, apart, of the law's own, and a box besides. -/
structure Ps (w0 w : World) (p d r N : Nat) (s : St) (t : RSt) (bx : Nat) (ty : TypeId) (cs : Array Value) : Prop where
  ex : ∃ F G : Nat → Prop, Dk w d F N s ∧ Rd w r G N t ∧ (∀ i, F i → ¬ G i) ∧ (∀ i, F i → w0.heap.size ≤ i) ∧ (∀ i, G i → w0.heap.size ≤ i) ∧ ¬ F bx ∧ ¬ G bx ∧ ¬ F p ∧ ¬ G p
  bel : Below w0.heap.size w0 w
  box : BxA w bx ty cs
  sr : Sr w p d
theorem Ps.below {w0 w w' : World} {p d r N bx : Nat} {s : St} {t : RSt} {ty : TypeId} {cs : Array Value} (h : Ps w0 w p d r N s t bx ty cs) (hb : Below w.heap.size w w') : Ps w0 w' p d r N s t bx ty cs := by
  obtain ⟨⟨F, G, h1, h2, h3, h4, h5, h6, h7, h8, h9⟩, bel, box, sr⟩ := h
  refine ⟨⟨F, G, h1.below hb, h2.below hb, h3, h4, h5, h6, h7, h8, h9⟩, bel.trans (hb.mono bel.size), ?_, sr.below hb⟩
  have hl := box.lt
  unfold BxA at box ⊢
  rw [hb.block _ hl]
  exact box
theorem Ps.disk {w0 w w' : World} {p d r N M bx : Nat} {s' : St} {t : RSt} {ty : TypeId} {cs : Array Value} {F G F' : Nat → Prop} (h2 : Rd w r G N t) (h3 : ∀ i, F i → ¬ G i) (h4 : ∀ i, F i → w0.heap.size ≤ i) (h5 : ∀ i, G i → w0.heap.size ≤ i) (h6 : ¬ F bx) (h7 : ¬ G bx) (h8 : ¬ F p) (h9 : ¬ G p) (bel : Below w0.heap.size w0 w) (box : BxA w bx ty cs) (sr : Sr w p d) (hd : Dk w' d F' M s') (hF' : ∀ i, F' i → F i ∨ w.heap.size ≤ i) (fr : Fr F w w') (hM : N ≤ M) : Ps w0 w' p d r M s' t bx ty cs := by
  have hs := bel.size
  refine ⟨⟨F', G, hd, (h2.other fr fun i hg hf => h3 i hf hg).more hM, fun i hf hg => ?_, fun i hi => ?_, h5, fun q => ?_, h7, fun q => ?_, h9⟩, bel.trans (fr.below hs h4), ?_, sr.fr fr h8⟩
  · rcases hF' i hf with q | q
    · exact h3 i q hg
    · have := h2.lt i hg; omega
  · rcases hF' i hi with q | q
    · exact h4 i q
    · omega
  · rcases hF' bx q with q | q
    · exact h6 q
    · have := box.lt; omega
  · rcases hF' p q with q | q
    · exact h8 q
    · have := BxA.lt sr; omega
  · have hl := box.lt
    unfold BxA at box ⊢
    rw [fr.block _ hl h6]
    exact box
theorem Ps.ref {w0 w w' : World} {p d r N M bx : Nat} {s : St} {t' : RSt} {ty : TypeId} {cs : Array Value} {F G : Nat → Prop} (h1 : Dk w d F N s) (h3 : ∀ i, F i → ¬ G i) (h4 : ∀ i, F i → w0.heap.size ≤ i) (h5 : ∀ i, G i → w0.heap.size ≤ i) (h6 : ¬ F bx) (h7 : ¬ G bx) (h8 : ¬ F p) (h9 : ¬ G p) (bel : Below w0.heap.size w0 w) (box : BxA w bx ty cs) (sr : Sr w p d) (hm : Rm w w' r G M t') (hM : N ≤ M) : Ps w0 w' p d r M s t' bx ty cs := by
  obtain ⟨⟨G', hd, hG'⟩, fr⟩ := hm
  have hs := bel.size
  refine ⟨⟨F, G', (h1.other fr fun i hf hg => h3 i hf hg).moreR hM, hd, fun i hf hg => ?_, h4, fun i hi => ?_, h6, fun q => ?_, h8, fun q => ?_⟩, bel.trans (fr.below hs h5), ?_, sr.fr fr h9⟩
  · rcases hG' i hg with q | q
    · exact h3 i hf q
    · have := h1.ltR i hf; omega
  · rcases hG' i hi with q | q
    · exact h5 i q
    · omega
  · rcases hG' bx q with q | q
    · exact h7 q
    · have := box.lt; omega
  · rcases hG' p q with q | q
    · exact h9 q
    · have := BxA.lt sr; omega
  · have hl := box.lt
    unfold BxA at box ⊢
    rw [fr.block _ hl h7]
    exact box
section
variable {w0 w : World} {p d r N bx : Nat} {s : St} {t : RSt} {ty : TypeId} {cs : Array Value}
theorem ps_append (h : Ps w0 w p d r N s t bx ty cs) (A : Str) (u : Value) (b : Str) (hA : A.length ≤ maxLen) (hu : Reads w0 u b) (hl : N + b.length ≤ 140737488355328) (hop : s.ops < 1000000) :
    Calls Try.prog 27 #[.pointer (some ⟨d, 0, none⟩), .string ⟨A.toArray⟩, u] w fun e w' => e = .returned (.int .i64 ((s.append A b).1 : Nat)) ∧ Ps w0 w' p d r (N + b.length) (s.append A b).2 t bx ty cs := by
  obtain ⟨⟨F, G, h1, h2, h3, h4, h5, h6, h7, h8, h9⟩, bel, box, sr⟩ := h
  refine (append_any w d N F s A u b h1 hA (fun w' hf => (hu.below bel).fraR hu.blkR h4 hf) hl hop).mono ?_
  rintro e w' ⟨rfl, ⟨F', hd, hF'⟩, fr⟩
  exact ⟨rfl, Ps.disk h2 h3 h4 h5 h6 h7 h8 h9 bel box sr hd hF' fr (Nat.le_add_right _ _)⟩
theorem ps_rappend (h : Ps w0 w p d r N s t bx ty cs) (A : Str) (u : Value) (b : Str) (hA : A.length ≤ maxLen) (hu : Reads w0 u b) (hl : N + b.length ≤ 140737488355328) (hop : t.n < 1000000) (hp : t.part ≤ 9223372036854775807) (hS : Srt t.fs) :
    Calls Try.prog 37 #[.pointer (some ⟨r, 0, none⟩), .string ⟨A.toArray⟩, u] w fun e w' => e = .returned (.int .i64 ((rapp t A b).1 : Nat)) ∧ Ps w0 w' p d r (N + b.length) s (rapp t A b).2 bx ty cs := by
  obtain ⟨⟨F, G, h1, h2, h3, h4, h5, h6, h7, h8, h9⟩, bel, box, sr⟩ := h
  refine (refappend_any w r N G t A u b h2 hA (fun w' hf => (hu.below bel).fraR hu.blkR h5 hf) hl hop hp hS).mono ?_
  rintro e w' ⟨rfl, hm⟩
  exact ⟨rfl, Ps.ref h1 h3 h4 h5 h6 h7 h8 h9 bel box sr hm (Nat.le_add_right _ _)⟩
theorem ps_cut (h : Ps w0 w p d r N s t bx ty cs) (part : Int) :
    Calls Try.prog 38 #[.pointer (some ⟨d, 0, none⟩), .int .i64 part] w fun e w' => e = .returned (.tuple #[]) ∧ Ps w0 w' p d r N (s.cut part) t bx ty cs := by
  obtain ⟨⟨F, G, h1, h2, h3, h4, h5, h6, h7, h8, h9⟩, bel, box, sr⟩ := h
  refine (cut_any w d N F s part h1).mono ?_
  rintro e w' ⟨rfl, hd, fr⟩
  exact ⟨rfl, Ps.disk h2 h3 h4 h5 h6 h7 h8 h9 bel box sr hd (fun _ h => .inl h) fr (Nat.le_refl _)⟩
theorem ps_rcut (h : Ps w0 w p d r N s t bx ty cs) (part : Int) (hN : N ≤ 140737488355328) (hp : part ≤ 9223372036854775807) :
    Calls Try.prog 39 #[.pointer (some ⟨r, 0, none⟩), .int .i64 part] w fun e w' => e = .returned (.tuple #[]) ∧ Ps w0 w' p d r N s (rcut t part) bx ty cs := by
  obtain ⟨⟨F, G, h1, h2, h3, h4, h5, h6, h7, h8, h9⟩, bel, box, sr⟩ := h
  refine (refcut_any w r N G t part h2 hN hp).mono ?_
  rintro e w' ⟨rfl, hm⟩
  exact ⟨rfl, Ps.ref h1 h3 h4 h5 h6 h7 h8 h9 bel box sr hm (Nat.le_refl _)⟩
theorem ps_cutAt (h : Ps w0 w p d r N s t bx ty cs) (a b : Int) :
    Calls Try.prog 16 #[.pointer (some ⟨d, 0, none⟩), .int .i64 a, .int .i64 b] w fun e w' => e = .returned (.tuple #[]) ∧ Ps w0 w' p d r N { s with set := true, op := a, part := b } t bx ty cs := by
  obtain ⟨⟨F, G, h1, h2, h3, h4, h5, h6, h7, h8, h9⟩, bel, box, sr⟩ := h
  refine (cutAt_any w d N F s a b h1).mono ?_
  rintro e w' ⟨rfl, hd, fr⟩
  exact ⟨rfl, Ps.disk h2 h3 h4 h5 h6 h7 h8 h9 bel box sr hd (fun _ h => .inl h) fr (Nat.le_refl _)⟩
theorem ps_on (h : Ps w0 w p d r N s t bx ty cs) :
    Calls Try.prog 22 #[.pointer (some ⟨d, 0, none⟩)] w fun e w' => e = .returned (.tuple #[]) ∧ Ps w0 w' p d r N { s with off := false } t bx ty cs := by
  obtain ⟨⟨F, G, h1, h2, h3, h4, h5, h6, h7, h8, h9⟩, bel, box, sr⟩ := h
  refine (on_any w d N F s h1).mono ?_
  rintro e w' ⟨rfl, hd, fr⟩
  exact ⟨rfl, Ps.disk h2 h3 h4 h5 h6 h7 h8 h9 bel box sr hd (fun _ h => .inl h) fr (Nat.le_refl _)⟩
/-- A cell of the reference's box. -/
theorem Ps.rcell (h : Ps w0 w p d r N s t bx ty cs) : ∃ Lv, BxA w r 38 #[Lv, .bool t.off, .int .i64 (t.n : Int), .int .i64 t.at_, .int .i64 t.part] := by
  obtain ⟨⟨F, G, h1, ⟨Lv, Z, h2⟩, h3, h4, h5, h6, h7, h8, h9⟩, bel, box, sr⟩ := h
  exact ⟨Lv, h2.b⟩
theorem Ps.rset (h : Ps w0 w p d r N s t bx ty cs) (c : Nat) (u : Value) (t' : RSt) (hfs : t'.fs = t.fs) (hn : t'.n = t.n) (hb : ∀ Lv : Value, #[Lv, .bool t.off, .int .i64 (t.n : Int), .int .i64 t.at_, .int .i64 t.part].setIfInBounds c u = #[Lv, .bool t'.off, .int .i64 (t'.n : Int), .int .i64 t'.at_, .int .i64 t'.part]) : Ps w0 (w.setCell ⟨r, c, none⟩ u) p d r N s t' bx ty cs := by
  obtain ⟨⟨F, G, h1, ⟨Lv, Z, h2⟩, h3, h4, h5, h6, h7, h8, h9⟩, bel, box, sr⟩ := h
  have hz : RZ (w.setCell ⟨r, c, none⟩ u) r G N t' Lv Z := h2.boxn (s' := t') (Lv' := Lv) c u (by rw [← hb Lv]; exact BxA.set h2.b c u) hfs (by rw [hn]; exact h2.nn)
  exact Ps.ref h1 h3 h4 h5 h6 h7 h8 h9 bel box sr ⟨⟨G, ⟨Lv, Z, hz⟩, fun _ h => .inl h⟩, Fr.of_grown grown_setCell fun j hj => .inl (by cases hj; exact h2.f)⟩ (Nat.le_refl _)
theorem ps_put (h : Ps w0 w p d r N s t bx ty cs) (x : Str) (u : Value) (l : Str) (hx : x.length ≤ 2000000) (hu : Reads w0 u l) (hN : N + 1048584 ≤ 140737488355328) (hop : s.ops < 999000) :
    Calls Try.prog 19 #[.pointer (some ⟨p, 0, none⟩), .string ⟨x.toArray⟩, u] w fun e w' => e = .returned (.int .i64 ((bput s x l).1 : Nat)) ∧ Ps w0 w' p d r (N + 1048584) (bput s x l).2 t bx ty cs := by
  obtain ⟨⟨F, G, h1, h2, h3, h4, h5, h6, h7, h8, h9⟩, bel, box, sr⟩ := h
  refine (putB_any w p d N F s x l u h1 sr h8 (by unfold maxLen; omega) (fun w' hf => (hu.below bel).fraR hu.blkR h4 hf) hN (by omega)).mono ?_
  rintro e w' ⟨rfl, ⟨F', hd, hF'⟩, fr⟩
  exact ⟨rfl, Ps.disk h2 h3 h4 h5 h6 h7 h8 h9 bel box sr hd hF' fr (Nat.le_add_right _ _)⟩
theorem ps_rput (h : Ps w0 w p d r N s t bx ty cs) (hR : ∃ s, Rel s t) (x : Str) (u : Value) (l : Str) (hx : x.length ≤ 2000000) (hu : Reads w0 u l) (hN : N + 1048584 ≤ 140737488355328) (hop : t.n < 999000) (hp : t.part ≤ 9223372036854775807) :
    Calls Try.prog 33 #[.pointer (some ⟨r, 0, none⟩), .string ⟨x.toArray⟩, u] w fun e w' => e = .returned (.int .i64 ((rputB t x l).1 : Nat)) ∧ Ps w0 w' p d r (N + 1048584) s (rputB t x l).2 bx ty cs := by
  obtain ⟨⟨F, G, h1, h2, h3, h4, h5, h6, h7, h8, h9⟩, bel, box, sr⟩ := h
  refine (refputB_any w r N G t x l u h2 hR hx (fun w' hf => (hu.below bel).fraR hu.blkR h5 hf) hN hop hp).mono ?_
  rintro e w' ⟨rfl, hm⟩
  exact ⟨rfl, Ps.ref h1 h3 h4 h5 h6 h7 h8 h9 bel box sr hm (Nat.le_add_right _ _)⟩
theorem ps_get (h : Ps w0 w p d r N s t bx ty cs) (x : Str) (hx : x.length ≤ 2000000) (hN : N ≤ 140737488355328) :
    Calls Try.prog 23 #[.pointer (some ⟨p, 0, none⟩), .string ⟨x.toArray⟩] w fun e w' => ∃ v, e = .returned (.tuple #[v, .int .i64 ((bget s x).1 : Nat)]) ∧ Reads w' v (bget s x).2 ∧ Below w.heap.size w w' := by
  obtain ⟨⟨F, G, h1, h2, h3, h4, h5, h6, h7, h8, h9⟩, bel, box, sr⟩ := h
  refine (getB_any w p d N F s x h1 sr (by unfold maxLen; omega) hN).mono ?_
  rintro e w' ⟨v, rfl, o, b⟩
  exact ⟨v, rfl, o.reads, b⟩
theorem ps_rget (h : Ps w0 w p d r N s t bx ty cs) (x : Str) (hx : x.length ≤ 2000000) (hN : N ≤ 140737488355328) :
    Calls Try.prog 34 #[.pointer (some ⟨r, 0, none⟩), .string ⟨x.toArray⟩] w fun e w' => ∃ v, e = .returned (.tuple #[v, .int .i64 ((rgetB t x).1 : Nat)]) ∧ Reads w' v (rgetB t x).2 ∧ Below w.heap.size w w' := by
  obtain ⟨⟨F, G, h1, h2, h3, h4, h5, h6, h7, h8, h9⟩, bel, box, sr⟩ := h
  refine (refgetB_any w r N G t x h2 hx hN).mono ?_
  rintro e w' ⟨v, rfl, o, b⟩
  exact ⟨v, rfl, o.reads, b⟩
theorem ps_list (h : Ps w0 w p d r N s t bx ty cs) :
    Calls Try.prog 30 #[.pointer (some ⟨p, 0, none⟩)] w fun e w' => ∃ v, e = .returned v ∧ Rds w' v (sv (blist s)) ∧ Below w.heap.size w w' := by
  obtain ⟨⟨F, G, h1, h2, h3, h4, h5, h6, h7, h8, h9⟩, bel, box, sr⟩ := h
  refine (listB_any w p d N F s h1 sr).mono ?_
  rintro e w' ⟨v, rfl, o, b⟩
  exact ⟨v, rfl, o.rds, b⟩
theorem Ps.nms (h : Ps w0 w p d r N s t bx ty cs) (hR : Rel s t) : ∀ f ∈ t.fs, f.nm.length ≤ 64 := by
  obtain ⟨⟨F, G, h1, h2, h3, h4, h5, h6, h7, h8, h9⟩, bel, box, sr⟩ := h
  exact fun f hf => h1.nms.1 f (hR.sp.pm.mem_iff.1 hf)
theorem Ps.fewR (h : Ps w0 w p d r N s t bx ty cs) : t.fs.length ≤ 1000 := by
  obtain ⟨⟨F, G, h1, h2, h3, h4, h5, h6, h7, h8, h9⟩, bel, box, sr⟩ := h
  exact h2.few
theorem ps_rlist (h : Ps w0 w p d r N s t bx ty cs) (hR : Rel s t) :
    Calls Try.prog 35 #[.pointer (some ⟨r, 0, none⟩)] w fun e w' => ∃ v, e = .returned v ∧ Rds w' v (sv (rlistB t)) ∧ Below w.heap.size w w' := by
  have hn := h.nms hR
  obtain ⟨⟨F, G, h1, h2, h3, h4, h5, h6, h7, h8, h9⟩, bel, box, sr⟩ := h
  refine (reflistB_any w r N G t h2 hn).mono ?_
  rintro e w' ⟨v, rfl, o, b⟩
  exact ⟨v, rfl, o.rds, b⟩
theorem ps_del (h : Ps w0 w p d r N s t bx ty cs) (x : Str) (hx : x.length ≤ 2000000) (hop : s.ops < 999000) :
    Calls Try.prog 21 #[.pointer (some ⟨p, 0, none⟩), .string ⟨x.toArray⟩] w fun e w' => e = .returned (.int .i64 ((bdel s x).1 : Nat)) ∧ Ps w0 w' p d r N (bdel s x).2 t bx ty cs := by
  obtain ⟨⟨F, G, h1, h2, h3, h4, h5, h6, h7, h8, h9⟩, bel, box, sr⟩ := h
  refine (delB_any w p d N F s x h1 sr (by unfold maxLen; omega) (by omega)).mono ?_
  rintro e w' ⟨rfl, hd, fr⟩
  exact ⟨rfl, Ps.disk h2 h3 h4 h5 h6 h7 h8 h9 bel box sr hd (fun _ h => .inl h) fr (Nat.le_refl _)⟩
theorem ps_rdel (h : Ps w0 w p d r N s t bx ty cs) (x : Str) (hx : x.length ≤ 2000000) (hN : N ≤ 140737488355328) (hop : t.n < 999000) (hp : t.part ≤ 9223372036854775807) :
    Calls Try.prog 36 #[.pointer (some ⟨r, 0, none⟩), .string ⟨x.toArray⟩] w fun e w' => e = .returned (.int .i64 ((rdelB t x).1 : Nat)) ∧ Ps w0 w' p d r N s (rdelB t x).2 bx ty cs := by
  obtain ⟨⟨F, G, h1, h2, h3, h4, h5, h6, h7, h8, h9⟩, bel, box, sr⟩ := h
  refine (refdelB_any w r N G t x h2 hx hN (by omega) hp).mono ?_
  rintro e w' ⟨rfl, hm⟩
  exact ⟨rfl, Ps.ref h1 h3 h4 h5 h6 h7 h8 h9 bel box sr hm (Nat.le_refl _)⟩
theorem ps_open (h : Ps w0 w p d r N s t bx ty cs) (hop : s.ops < 990000) :
    Calls Try.prog 12 #[.pointer (some ⟨d, 0, none⟩)] w fun e w' => ((bopen s).1 = 0 → ∃ q, e = .returned (.tuple #[.pointer (some ⟨q, 0, none⟩), .int .i64 0])) ∧ ((bopen s).1 ≠ 0 → e = .returned (.tuple #[.pointer none, .int .i64 ((bopen s).1 : Int)])) ∧ Ps w0 w' p d r N (bopen s).2 t bx ty cs := by
  obtain ⟨⟨F, G, h1, h2, h3, h4, h5, h6, h7, h8, h9⟩, bel, box, sr⟩ := h
  refine (openB_any w d N F s h1 hop).mono ?_
  rintro e w' ⟨hd, fr, ok, no⟩
  exact ⟨fun q => by obtain ⟨q, e, _⟩ := ok q; exact ⟨q, e⟩, no, Ps.disk h2 h3 h4 h5 h6 h7 h8 h9 bel box sr hd (fun _ h => .inl h) fr (Nat.le_refl _)⟩
theorem ps_ropen (h : Ps w0 w p d r N s t bx ty cs) (hn : ∀ f ∈ t.fs, f.nm.length ≤ 64) (hN : N ≤ 140737488355328) (hop : t.n < 990000) (hp : t.part ≤ 9223372036854775807) :
    Calls Try.prog 40 #[.pointer (some ⟨r, 0, none⟩)] w fun e w' => e = .returned (.int .i64 ((ropenB t).1 : Nat)) ∧ Ps w0 w' p d r N s (ropenB t).2 bx ty cs := by
  obtain ⟨⟨F, G, h1, h2, h3, h4, h5, h6, h7, h8, h9⟩, bel, box, sr⟩ := h
  refine (refopenB_any w r N G t h2 hn hN hop hp).mono ?_
  rintro e w' ⟨rfl, hm⟩
  exact ⟨rfl, Ps.ref h1 h3 h4 h5 h6 h7 h8 h9 bel box sr hm (Nat.le_refl _)⟩
end
end Go.Proofs.Ythegdhbmfojdaaa
