/- A disk and the reference's, side by side in memory. -/
import Derived.Test.YtdcoeebpknipdaaRlS
import Derived.Test.YtdcoeebpknipdaaAwk
import Derived.Test.YtdcoeebpknipdaaNum
namespace Go.Proofs.Ytdcoeebpknipdaa
open Go.RowKit Go.Maps Go.Sort
set_option linter.unusedVariables false

theorem Reads.fraR {w w' : World} {F : Nat → Prop} {u : Value} {b : Str} {n : Nat} (h : Reads w u b) (hc : ∀ ad k c, u = .slice (some ad) k c → 0 < b.length → ad.block < n) (hF : ∀ i, F i → n ≤ i) (hf : Fr F w w') : Reads w' u b := by
  obtain ⟨ao, cap, rfl, h1, h2, h3, h4⟩ := h
  refine ⟨ao, cap, rfl, h1, h2, h3, fun ad ha j u hj => ?_⟩
  have hl : 0 < b.length := by have := (List.getElem?_eq_some_iff.1 hj).1; rw [bv_length] at this; omega
  have hc4 := h4 ad ha j u hj
  have hb : (ad.add j).block = ad.block := by simp only [Addr.add]; split <;> rfl
  have hlt := hc ad _ _ (by rw [ha]) hl
  rw [cell_blk (hf.block _ (World.block_lt_of_cell? _ _ hc4) (by rw [hb]; intro hF'; have := hF _ hF'; omega)), hc4]
theorem Reads.blkR {w : World} {u : Value} {b : Str} (h : Reads w u b) : ∀ ad k c, u = .slice (some ad) k c → 0 < b.length → ad.block < w.heap.size := by
  obtain ⟨ao, cap, rfl, h1, h2, h3, h4⟩ := h
  intro ad k c e hl
  cases e
  have := World.block_lt_of_cell? _ _ (h4 ad rfl 0 _ (bv_get b 0 hl))
  have hb : (ad.add 0).block = ad.block := by simp only [Addr.add]; split <;> rfl
  omega
theorem Dk.moreR {w : World} {d N M : Nat} {F : Nat → Prop} {s : St} (h : Dk w d F N s) (hm : N ≤ M) : Dk w d F M s := by
  obtain ⟨mo, Z, h⟩ := h
  exact ⟨mo, Z, h.b, h.f, h.m, h.fm, h.e, h.ap, h.fs, fun x hx => Nat.le_trans (h.n x hx) hm, h.nm, h.few, h.ops, h.lt⟩
theorem Rd.more {w : World} {d N M : Nat} {F : Nat → Prop} {s : RSt} (h : Rd w d F N s) (hm : N ≤ M) : Rd w d F M s := by
  obtain ⟨Lv, Z, h⟩ := h
  exact ⟨Lv, Z, h.more hm⟩
theorem Dk.ltR {w : World} {d N : Nat} {F : Nat → Prop} {s : St} (h : Dk w d F N s) : ∀ i, F i → i < w.heap.size := by
  obtain ⟨mo, Z, h⟩ := h
  exact h.lt
theorem Rd.lt {w : World} {d N : Nat} {F : Nat → Prop} {s : RSt} (h : Rd w d F N s) : ∀ i, F i → i < w.heap.size := by
  obtain ⟨Lv, Z, h⟩ := h
  exact h.lt
/-- Both, apart, of the law's own, and a box besides. -/
structure Pq (w0 w : World) (d r N : Nat) (s : St) (t : RSt) (bx : Nat) (ty : TypeId) (cs : Array Value) : Prop where
  ex : ∃ F G : Nat → Prop, Dk w d F N s ∧ Rd w r G N t ∧ (∀ i, F i → ¬ G i) ∧ (∀ i, F i → w0.heap.size ≤ i) ∧ (∀ i, G i → w0.heap.size ≤ i) ∧ ¬ F bx ∧ ¬ G bx
  bel : Below w0.heap.size w0 w
  box : BxA w bx ty cs
theorem Pq.below {w0 w w' : World} {d r N bx : Nat} {s : St} {t : RSt} {ty : TypeId} {cs : Array Value} (h : Pq w0 w d r N s t bx ty cs) (hb : Below w.heap.size w w') : Pq w0 w' d r N s t bx ty cs := by
  obtain ⟨⟨F, G, h1, h2, h3, h4, h5, h6, h7⟩, bel, box⟩ := h
  refine ⟨⟨F, G, h1.below hb, h2.below hb, h3, h4, h5, h6, h7⟩, bel.trans (hb.mono bel.size), ?_⟩
  have hl := box.lt
  unfold BxA at box ⊢
  rw [hb.block _ hl]
  exact box
theorem Pq.disk {w0 w w' : World} {d r N M bx : Nat} {s' : St} {t : RSt} {ty : TypeId} {cs : Array Value} {F G F' : Nat → Prop} (h2 : Rd w r G N t) (h3 : ∀ i, F i → ¬ G i) (h4 : ∀ i, F i → w0.heap.size ≤ i) (h5 : ∀ i, G i → w0.heap.size ≤ i) (h6 : ¬ F bx) (h7 : ¬ G bx) (bel : Below w0.heap.size w0 w) (box : BxA w bx ty cs) (hd : Dk w' d F' M s') (hF' : ∀ i, F' i → F i ∨ w.heap.size ≤ i) (fr : Fr F w w') (hM : N ≤ M) : Pq w0 w' d r M s' t bx ty cs := by
  have hs := bel.size
  refine ⟨⟨F', G, hd, (h2.other fr fun i hg hf => h3 i hf hg).more hM, fun i hf hg => ?_, fun i hi => ?_, h5, fun q => ?_, h7⟩, bel.trans (fr.below hs h4), ?_⟩
  · rcases hF' i hf with q | q
    · exact h3 i q hg
    · have := h2.lt i hg; omega
  · rcases hF' i hi with q | q
    · exact h4 i q
    · omega
  · rcases hF' bx q with q | q
    · exact h6 q
    · have := box.lt; omega
  · have hl := box.lt
    unfold BxA at box ⊢
    rw [fr.block _ hl h6]
    exact box
theorem Pq.ref {w0 w w' : World} {d r N M bx : Nat} {s : St} {t' : RSt} {ty : TypeId} {cs : Array Value} {F G : Nat → Prop} (h1 : Dk w d F N s) (h3 : ∀ i, F i → ¬ G i) (h4 : ∀ i, F i → w0.heap.size ≤ i) (h5 : ∀ i, G i → w0.heap.size ≤ i) (h6 : ¬ F bx) (h7 : ¬ G bx) (bel : Below w0.heap.size w0 w) (box : BxA w bx ty cs) (hm : Rm w w' r G M t') (hM : N ≤ M) : Pq w0 w' d r M s t' bx ty cs := by
  obtain ⟨⟨G', hd, hG'⟩, fr⟩ := hm
  have hs := bel.size
  refine ⟨⟨F, G', (h1.other fr fun i hf hg => h3 i hf hg).moreR hM, hd, fun i hf hg => ?_, h4, fun i hi => ?_, h6, fun q => ?_⟩, bel.trans (fr.below hs h5), ?_⟩
  · rcases hG' i hg with q | q
    · exact h3 i hf q
    · have := h1.ltR i hf; omega
  · rcases hG' i hi with q | q
    · exact h5 i q
    · omega
  · rcases hG' bx q with q | q
    · exact h7 q
    · have := box.lt; omega
  · have hl := box.lt
    unfold BxA at box ⊢
    rw [fr.block _ hl h7]
    exact box
section
variable {w0 w : World} {d r N bx : Nat} {s : St} {t : RSt} {ty : TypeId} {cs : Array Value}
theorem pq_append (h : Pq w0 w d r N s t bx ty cs) (A : Str) (u : Value) (b : Str) (hA : A.length ≤ maxLen) (hu : Reads w0 u b) (hl : N + b.length ≤ 140737488355328) (hop : s.ops < 1000000) :
    Calls Try.prog 23 #[.pointer (some ⟨d, 0, none⟩), .string ⟨A.toArray⟩, u] w fun e w' => e = .returned (.int .i64 ((s.append A b).1 : Nat)) ∧ Pq w0 w' d r (N + b.length) (s.append A b).2 t bx ty cs := by
  obtain ⟨⟨F, G, h1, h2, h3, h4, h5, h6, h7⟩, bel, box⟩ := h
  refine (append_any w d N F s A u b h1 hA (fun w' hf => (hu.below bel).fraR hu.blkR h4 hf) hl hop).mono ?_
  rintro e w' ⟨rfl, ⟨F', hd, hF'⟩, fr⟩
  exact ⟨rfl, Pq.disk h2 h3 h4 h5 h6 h7 bel box hd hF' fr (Nat.le_add_right _ _)⟩
theorem pq_rappend (h : Pq w0 w d r N s t bx ty cs) (A : Str) (u : Value) (b : Str) (hA : A.length ≤ maxLen) (hu : Reads w0 u b) (hl : N + b.length ≤ 140737488355328) (hop : t.n < 1000000) (hp : t.part ≤ 9223372036854775807) (hS : Srt t.fs) :
    Calls Try.prog 31 #[.pointer (some ⟨r, 0, none⟩), .string ⟨A.toArray⟩, u] w fun e w' => e = .returned (.int .i64 ((rapp t A b).1 : Nat)) ∧ Pq w0 w' d r (N + b.length) s (rapp t A b).2 bx ty cs := by
  obtain ⟨⟨F, G, h1, h2, h3, h4, h5, h6, h7⟩, bel, box⟩ := h
  refine (refappend_any w r N G t A u b h2 hA (fun w' hf => (hu.below bel).fraR hu.blkR h5 hf) hl hop hp hS).mono ?_
  rintro e w' ⟨rfl, hm⟩
  exact ⟨rfl, Pq.ref h1 h3 h4 h5 h6 h7 bel box hm (Nat.le_add_right _ _)⟩
theorem pq_sync (h : Pq w0 w d r N s t bx ty cs) (A : Str) (hA : A.length ≤ maxLen) (hop : s.ops < 1000000) :
    Calls Try.prog 24 #[.pointer (some ⟨d, 0, none⟩), .string ⟨A.toArray⟩] w fun e w' => e = .returned (.int .i64 ((s.sync A).1 : Nat)) ∧ Pq w0 w' d r N (s.sync A).2 t bx ty cs := by
  obtain ⟨⟨F, G, h1, h2, h3, h4, h5, h6, h7⟩, bel, box⟩ := h
  refine (sync_any w d N F s A h1 hA hop).mono ?_
  rintro e w' ⟨rfl, hd, fr⟩
  exact ⟨rfl, Pq.disk h2 h3 h4 h5 h6 h7 bel box hd (fun _ h => .inl h) fr (Nat.le_refl _)⟩
theorem pq_rsync (h : Pq w0 w d r N s t bx ty cs) (A : Str) (hA : A.length ≤ maxLen) (hN : N ≤ 140737488355328) (hop : t.n < 1000000) (hp : t.part ≤ 9223372036854775807) :
    Calls Try.prog 32 #[.pointer (some ⟨r, 0, none⟩), .string ⟨A.toArray⟩] w fun e w' => e = .returned (.int .i64 ((rsyn t A).1 : Nat)) ∧ Pq w0 w' d r N s (rsyn t A).2 bx ty cs := by
  obtain ⟨⟨F, G, h1, h2, h3, h4, h5, h6, h7⟩, bel, box⟩ := h
  refine (refsync_any w r N G t A h2 hA hN hop hp).mono ?_
  rintro e w' ⟨rfl, hm⟩
  exact ⟨rfl, Pq.ref h1 h3 h4 h5 h6 h7 bel box hm (Nat.le_refl _)⟩
theorem pq_remove (h : Pq w0 w d r N s t bx ty cs) (A : Str) (hA : A.length ≤ maxLen) (hop : s.ops < 1000000) :
    Calls Try.prog 26 #[.pointer (some ⟨d, 0, none⟩), .string ⟨A.toArray⟩] w fun e w' => e = .returned (.int .i64 ((s.remove A).1 : Nat)) ∧ Pq w0 w' d r N (s.remove A).2 t bx ty cs := by
  obtain ⟨⟨F, G, h1, h2, h3, h4, h5, h6, h7⟩, bel, box⟩ := h
  refine (remove_any w d N F s A h1 hA hop).mono ?_
  rintro e w' ⟨rfl, hd, fr⟩
  exact ⟨rfl, Pq.disk h2 h3 h4 h5 h6 h7 bel box hd (fun _ h => .inl h) fr (Nat.le_refl _)⟩
theorem pq_rremove (h : Pq w0 w d r N s t bx ty cs) (A : Str) (hA : A.length ≤ maxLen) (hN : N ≤ 140737488355328) (hop : t.n < 1000000) (hp : t.part ≤ 9223372036854775807) :
    Calls Try.prog 34 #[.pointer (some ⟨r, 0, none⟩), .string ⟨A.toArray⟩] w fun e w' => e = .returned (.int .i64 ((rrem t A).1 : Nat)) ∧ Pq w0 w' d r N s (rrem t A).2 bx ty cs := by
  obtain ⟨⟨F, G, h1, h2, h3, h4, h5, h6, h7⟩, bel, box⟩ := h
  refine (refremove_any w r N G t A h2 hA hN hop hp).mono ?_
  rintro e w' ⟨rfl, hm⟩
  exact ⟨rfl, Pq.ref h1 h3 h4 h5 h6 h7 bel box hm (Nat.le_refl _)⟩
theorem pq_rename (h : Pq w0 w d r N s t bx ty cs) (A B : Str) (hA : A.length ≤ maxLen) (hB : B.length ≤ maxLen) (hop : s.ops < 1000000) :
    Calls Try.prog 25 #[.pointer (some ⟨d, 0, none⟩), .string ⟨A.toArray⟩, .string ⟨B.toArray⟩] w fun e w' => e = .returned (.int .i64 ((s.rename A B).1 : Nat)) ∧ Pq w0 w' d r N (s.rename A B).2 t bx ty cs := by
  obtain ⟨⟨F, G, h1, h2, h3, h4, h5, h6, h7⟩, bel, box⟩ := h
  refine (rename_any w d N F s A B h1 hA hB hop).mono ?_
  rintro e w' ⟨rfl, hd, fr⟩
  exact ⟨rfl, Pq.disk h2 h3 h4 h5 h6 h7 bel box hd (fun _ h => .inl h) fr (Nat.le_refl _)⟩
theorem pq_rrename (h : Pq w0 w d r N s t bx ty cs) (A B : Str) (hA : A.length ≤ maxLen) (hB : B.length ≤ maxLen) (hN : N ≤ 140737488355328) (hop : t.n < 1000000) (hp : t.part ≤ 9223372036854775807) (hS : Srt t.fs) :
    Calls Try.prog 33 #[.pointer (some ⟨r, 0, none⟩), .string ⟨A.toArray⟩, .string ⟨B.toArray⟩] w fun e w' => e = .returned (.int .i64 ((rren t A B).1 : Nat)) ∧ Pq w0 w' d r N s (rren t A B).2 bx ty cs := by
  obtain ⟨⟨F, G, h1, h2, h3, h4, h5, h6, h7⟩, bel, box⟩ := h
  refine (refrename_any w r N G t A B h2 hA hB hN hop hp hS).mono ?_
  rintro e w' ⟨rfl, hm⟩
  exact ⟨rfl, Pq.ref h1 h3 h4 h5 h6 h7 bel box hm (Nat.le_refl _)⟩
theorem pq_read (h : Pq w0 w d r N s t bx ty cs) (A : Str) (hA : A.length ≤ maxLen) (hN : N ≤ 140737488355328) :
    Calls Try.prog 20 #[.pointer (some ⟨d, 0, none⟩), .string ⟨A.toArray⟩] w fun e w' => ∃ v, e = .returned (.tuple #[v, .int .i64 (rfF s A [] : Nat)]) ∧ Reads w' v (rdC s A) ∧ Below w.heap.size w w' := by
  obtain ⟨⟨F, G, h1, h2, h3, h4, h5, h6, h7⟩, bel, box⟩ := h
  refine (read_any w d N F s A h1 hA hN).mono ?_
  rintro e w' ⟨v, rfl, ho, hb⟩
  exact ⟨v, rfl, ho.reads, hb⟩
theorem pq_rread (h : Pq w0 w d r N s t bx ty cs) (A : Str) (hA : A.length ≤ maxLen) (hN : N ≤ 140737488355328) :
    Calls Try.prog 35 #[.pointer (some ⟨r, 0, none⟩), .string ⟨A.toArray⟩] w fun e w' => ∃ v, e = .returned (.tuple #[v, .int .i64 (rrc t A A : Nat)]) ∧ Reads w' v (rrd t A) ∧ Below w.heap.size w w' := by
  obtain ⟨⟨F, G, h1, h2, h3, h4, h5, h6, h7⟩, bel, box⟩ := h
  refine (refread_any w r N G t A h2 hA hN).mono ?_
  rintro e w' ⟨v, rfl, ho, hb⟩
  exact ⟨v, rfl, ho.reads, hb⟩
theorem pq_list (h : Pq w0 w d r N s t bx ty cs) (p : Str) :
    Calls Try.prog 19 #[.pointer (some ⟨d, 0, none⟩), .string ⟨p.toArray⟩] w fun e w' => ∃ v, e = .returned v ∧ Rds w' v (sv (lstN s p)) ∧ Below w.heap.size w w' := by
  obtain ⟨⟨F, G, h1, h2, h3, h4, h5, h6, h7⟩, bel, box⟩ := h
  refine (list_any w d N F s p h1).mono ?_
  rintro e w' ⟨v, rfl, ho, _, hb⟩
  exact ⟨v, rfl, ho.rds, hb⟩
theorem Dk.nmsR (h : ∃ F, Dk w d F N s) : ∀ f ∈ s.fs, f.nm.length ≤ maxLen := by
  obtain ⟨F, mo, Z, h⟩ := h
  intro f hf
  rw [← h.fs] at hf
  obtain ⟨x, hx, rfl⟩ := List.mem_map.1 hf
  have := h.nm x hx
  have e : x.fl.nm = x.nm := rfl
  rw [e]
  unfold maxLen
  omega
theorem pq_rlist (h : Pq w0 w d r N s t bx ty cs) (hR : Rel s t) (p : Str) (hp : p.length ≤ maxLen) :
    Calls Try.prog 36 #[.pointer (some ⟨r, 0, none⟩), .string ⟨p.toArray⟩] w fun e w' => ∃ v, e = .returned v ∧ Rds w' v (sv (rls t p)) ∧ Below w.heap.size w w' := by
  obtain ⟨⟨F, G, h1, h2, h3, h4, h5, h6, h7⟩, bel, box⟩ := h
  refine (reflist_any w r N G t p h2 hp fun f hf => Dk.nmsR ⟨F, h1⟩ f (hR.sp.pm.mem_iff.1 hf)).mono ?_
  rintro e w' ⟨v, rfl, ho, hb⟩
  exact ⟨v, rfl, ho.rds, hb⟩
theorem pq_cut (h : Pq w0 w d r N s t bx ty cs) (part : Int) :
    Calls Try.prog 17 #[.pointer (some ⟨d, 0, none⟩), .int .i64 part] w fun e w' => e = .returned (.tuple #[]) ∧ Pq w0 w' d r N (s.cut part) t bx ty cs := by
  obtain ⟨⟨F, G, h1, h2, h3, h4, h5, h6, h7⟩, bel, box⟩ := h
  refine (cut_any w d N F s part h1).mono ?_
  rintro e w' ⟨rfl, hd, fr⟩
  exact ⟨rfl, Pq.disk h2 h3 h4 h5 h6 h7 bel box hd (fun _ h => .inl h) fr (Nat.le_refl _)⟩
theorem pq_rcut (h : Pq w0 w d r N s t bx ty cs) (part : Int) (hN : N ≤ 140737488355328) (hp : part ≤ 9223372036854775807) :
    Calls Try.prog 37 #[.pointer (some ⟨r, 0, none⟩), .int .i64 part] w fun e w' => e = .returned (.tuple #[]) ∧ Pq w0 w' d r N s (rcut t part) bx ty cs := by
  obtain ⟨⟨F, G, h1, h2, h3, h4, h5, h6, h7⟩, bel, box⟩ := h
  refine (refcut_any w r N G t part h2 hN hp).mono ?_
  rintro e w' ⟨rfl, hm⟩
  exact ⟨rfl, Pq.ref h1 h3 h4 h5 h6 h7 bel box hm (Nat.le_refl _)⟩
theorem pq_cutAt (h : Pq w0 w d r N s t bx ty cs) (a b : Int) :
    Calls Try.prog 28 #[.pointer (some ⟨d, 0, none⟩), .int .i64 a, .int .i64 b] w fun e w' => e = .returned (.tuple #[]) ∧ Pq w0 w' d r N { s with set := true, op := a, part := b } t bx ty cs := by
  obtain ⟨⟨F, G, h1, h2, h3, h4, h5, h6, h7⟩, bel, box⟩ := h
  refine (cutAt_any w d N F s a b h1).mono ?_
  rintro e w' ⟨rfl, hd, fr⟩
  exact ⟨rfl, Pq.disk h2 h3 h4 h5 h6 h7 bel box hd (fun _ h => .inl h) fr (Nat.le_refl _)⟩
theorem pq_on (h : Pq w0 w d r N s t bx ty cs) :
    Calls Try.prog 18 #[.pointer (some ⟨d, 0, none⟩)] w fun e w' => e = .returned (.tuple #[]) ∧ Pq w0 w' d r N { s with off := false } t bx ty cs := by
  obtain ⟨⟨F, G, h1, h2, h3, h4, h5, h6, h7⟩, bel, box⟩ := h
  refine (on_any w d N F s h1).mono ?_
  rintro e w' ⟨rfl, hd, fr⟩
  exact ⟨rfl, Pq.disk h2 h3 h4 h5 h6 h7 bel box hd (fun _ h => .inl h) fr (Nat.le_refl _)⟩
/-- A cell of the reference's box. -/
theorem Pq.rcell (h : Pq w0 w d r N s t bx ty cs) : ∃ Lv, BxA w r 34 #[Lv, .bool t.off, .int .i64 (t.n : Int), .int .i64 t.at_, .int .i64 t.part] := by
  obtain ⟨⟨F, G, h1, ⟨Lv, Z, h2⟩, h3, h4, h5, h6, h7⟩, bel, box⟩ := h
  exact ⟨Lv, h2.b⟩
theorem Pq.rset (h : Pq w0 w d r N s t bx ty cs) (c : Nat) (u : Value) (t' : RSt) (hfs : t'.fs = t.fs) (hn : t'.n = t.n) (hb : ∀ Lv : Value, #[Lv, .bool t.off, .int .i64 (t.n : Int), .int .i64 t.at_, .int .i64 t.part].setIfInBounds c u = #[Lv, .bool t'.off, .int .i64 (t'.n : Int), .int .i64 t'.at_, .int .i64 t'.part]) : Pq w0 (w.setCell ⟨r, c, none⟩ u) d r N s t' bx ty cs := by
  obtain ⟨⟨F, G, h1, ⟨Lv, Z, h2⟩, h3, h4, h5, h6, h7⟩, bel, box⟩ := h
  have hz : RZ (w.setCell ⟨r, c, none⟩ u) r G N t' Lv Z := h2.boxn (s' := t') (Lv' := Lv) c u (by rw [← hb Lv]; exact BxA.set h2.b c u) hfs (by rw [hn]; exact h2.nn)
  exact Pq.ref h1 h3 h4 h5 h6 h7 bel box ⟨⟨G, ⟨Lv, Z, hz⟩, fun _ h => .inl h⟩, Fr.of_grown grown_setCell fun j hj => .inl (by cases hj; exact h2.f)⟩ (Nat.le_refl _)
end
end Go.Proofs.Ytdcoeebpknipdaa
