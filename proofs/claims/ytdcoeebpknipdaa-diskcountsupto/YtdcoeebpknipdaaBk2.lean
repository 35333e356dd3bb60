/- The law's book: a name is taken out. -/
import Derived.Test.YtdcoeebpknipdaaBk
import Derived.Deep.RegionLaw
namespace Go.Proofs.Ytdcoeebpknipdaa
open Go.RowKit Go.Maps Go.Sort

theorem step_appL {P : Program} {ops : Array Oper} {o : Oper} {a : Act} {w : World} {K : Act → World → Prop} {Q : Exit → Act → World → Prop} {E : Prop} (hgd : o.guard = none) (s x : Operand) (t : TypeId)
    (ho : o.op = .call { callee := .builtin .append, args := #[s, x], argTypes := #[t, t] })
    (base : Nat) (e : TypeId) (i : TypeInfo) (z : Value) (bytes : Nat) (ht : P.underlying t = some (.slice e)) (hi : P.info? e = some i) (hz : i.zero = some z)
    (hsize : i.size = 1) (hby : i.bytes = bytes) (hzs : z.cells.size = 1)
    (v : Value) (xs : List Value) (hs : a.eval s = v) (hown : RowL w base e v xs)
    (ad : Addr) (m c : Nat) (news : List Value) (hx : a.eval x = .slice (some ad) m c) (hl : news.length = m) (hnews : ∀ j u, news[j]? = some u → w.cell? (ad.add j) = some u) (h1 : ∀ u ∈ news, u.oneCell' = true)
    (h63 : xs.length + m ≤ maxLen) (hbytes : ((xs.length + m) + (xs.length + m) / 4 + 192) * bytes ≤ 281474976710656) (hbase : base ≤ w.heap.size)
    (h : ∀ v' w', RowL w' base e v' (xs ++ news) → w.grownBy w' v.ownBlock → (v'.ownBlock = v.ownBlock ∨ ∃ g, v'.ownBlock = some g ∧ w.heap.size ≤ g) → K (a.put o.dst v') w') :
    if Region.wanted o (yielded ops a.tmps) = true then Oper.wp P o a w K Q else E := by
  have hw : Region.wanted o (yielded ops a.tmps) = true := by simp [Region.wanted, hgd]
  rw [if_pos hw]
  exact wp_appL s x t ho base e i z bytes ht hi hz hsize hby hzs v xs hs hown ad m c news hx hl hnews h1 h63 hbytes hbase h
/-- The book's three rows, each by itself. -/
structure BkT (w : World) (b : Nat) (G : Nat → Prop) (nv bv yv : Value) (xn xb xy : List Value) : Prop where
  x : BxA w b 41 #[nv, bv, yv]
  n : RowL w 0 9 nv xn
  bb : RowL w 0 9 bv xb
  y : RowL w 0 3 yv xy
  ap : ∀ r, nv.ownBlock = some r → bv.ownBlock ≠ some r
  gb : G b
  gn : ∀ r, nv.ownBlock = some r → G r
  gv : ∀ r, bv.ownBlock = some r → G r
  gy : ∀ r, yv.ownBlock = some r → G r
  lt : ∀ i, G i → i < w.heap.size
theorem BkV.t {w : World} {b : Nat} {G : Nat → Prop} {E : List Fl} {nv bv yv : Value} (h : BkV w b G E nv bv yv) : BkT w b G nv bv yv (sv (E.map Fl.nm)) (sv (E.map Fl.bs)) (iv (E.map fun f => (f.sy : Int))) := ⟨h.x, h.n, h.bb, h.y, h.ap, h.gb, h.gn, h.gv, h.gy, h.lt⟩
theorem BkT.v {w : World} {b : Nat} {G : Nat → Prop} {E : List Fl} {nv bv yv : Value} (h : BkT w b G nv bv yv (sv (E.map Fl.nm)) (sv (E.map Fl.bs)) (iv (E.map fun f => (f.sy : Int)))) (hf : E.length ≤ 1000) : BkV w b G E nv bv yv := ⟨h.x, h.n, h.bb, h.y, h.ap, h.gb, h.gn, h.gv, h.gy, hf, h.lt⟩
theorem BkT.ne {w : World} {b : Nat} {G : Nat → Prop} {nv bv yv : Value} {xn xb xy : List Value} (h : BkT w b G nv bv yv xn xb xy) : nv.ownBlock ≠ some b ∧ bv.ownBlock ≠ some b ∧ yv.ownBlock ≠ some b ∧ (∀ r, nv.ownBlock = some r → yv.ownBlock ≠ some r) ∧ (∀ r, bv.ownBlock = some r → yv.ownBlock ≠ some r) := by
  have hx : w.heap[b]? = _ := h.x
  refine ⟨fun e => ?_, fun e => ?_, fun e => ?_, fun r e1 e2 => ?_, fun r e1 e2 => ?_⟩
  · obtain ⟨cur, hc⟩ := h.n.blk b e
    rw [hx] at hc; simp only [Option.some.injEq, Obj.cells.injEq] at hc; exact absurd hc.2.1 (by decide)
  · obtain ⟨cur, hc⟩ := h.bb.blk b e
    rw [hx] at hc; simp only [Option.some.injEq, Obj.cells.injEq] at hc; exact absurd hc.2.1 (by decide)
  · obtain ⟨cur, hc⟩ := h.y.blk b e
    rw [hx] at hc; simp only [Option.some.injEq, Obj.cells.injEq] at hc; exact absurd hc.2.1 (by decide)
  · obtain ⟨cur, hc⟩ := h.n.blk r e1
    obtain ⟨cur2, hc2⟩ := h.y.blk r e2
    rw [hc] at hc2; simp only [Option.some.injEq, Obj.cells.injEq] at hc2; exact absurd hc2.2.1 (by decide)
  · obtain ⟨cur, hc⟩ := h.bb.blk r e1
    obtain ⟨cur2, hc2⟩ := h.y.blk r e2
    rw [hc] at hc2; simp only [Option.some.injEq, Obj.cells.injEq] at hc2; exact absurd hc2.2.1 (by decide)
theorem BkT.n1 {w w3 : World} {b : Nat} {G : Nat → Prop} {nv bv yv v' : Value} {xn xb xy x' : List Value} (h : BkT w b G nv bv yv xn xb xy) (hr : RowL w3 0 9 v' x') (g : w.grownBy w3 nv.ownBlock) (hb : v'.ownBlock = nv.ownBlock ∨ ∃ r, v'.ownBlock = some r ∧ w.heap.size ≤ r) :
    BxA w3 b 41 #[nv, bv, yv] ∧ BkT (w3.setCell ⟨b, 0, none⟩ v') b (fun i => G i ∨ v'.ownBlock = some i) v' bv yv x' xb xy ∧ Fr G w (w3.setCell ⟨b, 0, none⟩ v') ∧ (∀ i, v'.ownBlock = some i → G i ∨ w.heap.size ≤ i) := by
  have hx : BxA w3 b 41 #[nv, bv, yv] := by
    have := h.x
    unfold BxA at this ⊢
    rw [g.block b h.x.lt (fun q => h.ne.1 q.symm)]
    exact this
  have gs := grown_setCell (w := w3) (R := b) (j := 0) (u := v')
  have hvb : ∀ r, v'.ownBlock = some r → r ≠ b := fun r hr' e => by
    obtain ⟨cur, hc⟩ := hr.blk r hr'
    rw [e, show w3.heap[b]? = _ from hx] at hc
    simp only [Option.some.injEq, Obj.cells.injEq] at hc
    exact absurd hc.2.1 (by decide)
  have hk1 : ∀ r, bv.ownBlock = some r → r ≠ b := fun r hr' e => by rw [e] at hr'; exact h.ne.2.1 hr'
  have hk2 : ∀ r, yv.ownBlock = some r → r ≠ b := fun r hr' e => by rw [e] at hr'; exact h.ne.2.2.1 hr'
  have ha1 : ∀ r, bv.ownBlock = some r → nv.ownBlock ≠ some r := fun r hr' q => h.ap r q hr'
  have ha2 : ∀ r, yv.ownBlock = some r → nv.ownBlock ≠ some r := fun r hr' q => h.ne.2.2.2.1 r q hr'
  have hvG : ∀ i, v'.ownBlock = some i → G i ∨ w.heap.size ≤ i := fun i hi => by
    rcases hb with hb | ⟨r, hb, hl⟩
    · exact .inl (h.gn i (by rw [← hb]; exact hi))
    · rw [hb] at hi; cases hi; exact .inr hl
  refine ⟨hx, ⟨hx.set 0 v', hr.keep fun r hr' => gs.block r (hr.lt r hr').2 fun q => hvb r hr' (by simpa using q), h.bb.keep fun r hr' => (gs.block r (Nat.lt_of_lt_of_le (h.bb.lt r hr').2 g.size) fun q => hk1 r hr' (by simpa using q)).trans (g.block r (h.bb.lt r hr').2 fun q => ha1 r hr' q.symm), h.y.keep fun r hr' => (gs.block r (Nat.lt_of_lt_of_le (h.y.lt r hr').2 g.size) fun q => hk2 r hr' (by simpa using q)).trans (g.block r (h.y.lt r hr').2 fun q => ha2 r hr' q.symm), fun r hr' q => by
    rcases hb with hb | ⟨r', hb, hl⟩
    · exact h.ap r (by rw [← hb]; exact hr') q
    · rw [hb] at hr'; cases hr'; have := (h.bb.lt r q).2; omega, .inl h.gb, fun r hr' => .inr hr', fun r hr' => .inl (h.gv r hr'), fun r hr' => .inl (h.gy r hr'), fun i hi => ?_⟩, ?_, hvG⟩
  · rcases hi with hi | hi
    · have := h.lt i hi
      have := g.size
      simp
      omega
    · simpa using (hr.lt i hi).2
  · exact (Fr.of_grown (F := G) g fun j hj => .inl (h.gn j hj)).trans (Fr.of_grown (F := G) gs fun j hj => .inl (by cases hj; exact h.gb)) fun _ _ h => h
theorem BkT.b1 {w w3 : World} {b : Nat} {G : Nat → Prop} {nv bv yv v' : Value} {xn xb xy x' : List Value} (h : BkT w b G nv bv yv xn xb xy) (hr : RowL w3 0 9 v' x') (g : w.grownBy w3 bv.ownBlock) (hb : v'.ownBlock = bv.ownBlock ∨ ∃ r, v'.ownBlock = some r ∧ w.heap.size ≤ r) :
    BxA w3 b 41 #[nv, bv, yv] ∧ BkT (w3.setCell ⟨b, 1, none⟩ v') b (fun i => G i ∨ v'.ownBlock = some i) nv v' yv xn x' xy ∧ Fr G w (w3.setCell ⟨b, 1, none⟩ v') ∧ (∀ i, v'.ownBlock = some i → G i ∨ w.heap.size ≤ i) := by
  have hx : BxA w3 b 41 #[nv, bv, yv] := by
    have := h.x
    unfold BxA at this ⊢
    rw [g.block b h.x.lt (fun q => h.ne.2.1 q.symm)]
    exact this
  have gs := grown_setCell (w := w3) (R := b) (j := 1) (u := v')
  have hvb : ∀ r, v'.ownBlock = some r → r ≠ b := fun r hr' e => by
    obtain ⟨cur, hc⟩ := hr.blk r hr'
    rw [e, show w3.heap[b]? = _ from hx] at hc
    simp only [Option.some.injEq, Obj.cells.injEq] at hc
    exact absurd hc.2.1 (by decide)
  have hk0 : ∀ r, nv.ownBlock = some r → r ≠ b := fun r hr' e => by rw [e] at hr'; exact h.ne.1 hr'
  have hk2 : ∀ r, yv.ownBlock = some r → r ≠ b := fun r hr' e => by rw [e] at hr'; exact h.ne.2.2.1 hr'
  have ha0 : ∀ r, nv.ownBlock = some r → bv.ownBlock ≠ some r := fun r hr' q => h.ap r hr' q
  have ha2 : ∀ r, yv.ownBlock = some r → bv.ownBlock ≠ some r := fun r hr' q => h.ne.2.2.2.2 r q hr'
  have hvG : ∀ i, v'.ownBlock = some i → G i ∨ w.heap.size ≤ i := fun i hi => by
    rcases hb with hb | ⟨r, hb, hl⟩
    · exact .inl (h.gv i (by rw [← hb]; exact hi))
    · rw [hb] at hi; cases hi; exact .inr hl
  refine ⟨hx, ⟨hx.set 1 v', h.n.keep fun r hr' => (gs.block r (Nat.lt_of_lt_of_le (h.n.lt r hr').2 g.size) fun q => hk0 r hr' (by simpa using q)).trans (g.block r (h.n.lt r hr').2 fun q => ha0 r hr' q.symm), hr.keep fun r hr' => gs.block r (hr.lt r hr').2 fun q => hvb r hr' (by simpa using q), h.y.keep fun r hr' => (gs.block r (Nat.lt_of_lt_of_le (h.y.lt r hr').2 g.size) fun q => hk2 r hr' (by simpa using q)).trans (g.block r (h.y.lt r hr').2 fun q => ha2 r hr' q.symm), fun r hr' q => by
    rcases hb with hb | ⟨r', hb, hl⟩
    · exact h.ap r hr' (by rw [← hb]; exact q)
    · rw [hb] at q; cases q; have := (h.n.lt r hr').2; omega, .inl h.gb, fun r hr' => .inl (h.gn r hr'), fun r hr' => .inr hr', fun r hr' => .inl (h.gy r hr'), fun i hi => ?_⟩, ?_, hvG⟩
  · rcases hi with hi | hi
    · have := h.lt i hi
      have := g.size
      simp
      omega
    · simpa using (hr.lt i hi).2
  · exact (Fr.of_grown (F := G) g fun j hj => .inl (h.gv j hj)).trans (Fr.of_grown (F := G) gs fun j hj => .inl (by cases hj; exact h.gb)) fun _ _ h => h
theorem BkT.y1 {w w3 : World} {b : Nat} {G : Nat → Prop} {nv bv yv v' : Value} {xn xb xy x' : List Value} (h : BkT w b G nv bv yv xn xb xy) (hr : RowL w3 0 3 v' x') (g : w.grownBy w3 yv.ownBlock) (hb : v'.ownBlock = yv.ownBlock ∨ ∃ r, v'.ownBlock = some r ∧ w.heap.size ≤ r) :
    BxA w3 b 41 #[nv, bv, yv] ∧ BkT (w3.setCell ⟨b, 2, none⟩ v') b (fun i => G i ∨ v'.ownBlock = some i) nv bv v' xn xb x' ∧ Fr G w (w3.setCell ⟨b, 2, none⟩ v') ∧ (∀ i, v'.ownBlock = some i → G i ∨ w.heap.size ≤ i) := by
  have hx : BxA w3 b 41 #[nv, bv, yv] := by
    have := h.x
    unfold BxA at this ⊢
    rw [g.block b h.x.lt (fun q => h.ne.2.2.1 q.symm)]
    exact this
  have gs := grown_setCell (w := w3) (R := b) (j := 2) (u := v')
  have hvb : ∀ r, v'.ownBlock = some r → r ≠ b := fun r hr' e => by
    obtain ⟨cur, hc⟩ := hr.blk r hr'
    rw [e, show w3.heap[b]? = _ from hx] at hc
    simp only [Option.some.injEq, Obj.cells.injEq] at hc
    exact absurd hc.2.1 (by decide)
  have hk0 : ∀ r, nv.ownBlock = some r → r ≠ b := fun r hr' e => by rw [e] at hr'; exact h.ne.1 hr'
  have hk1 : ∀ r, bv.ownBlock = some r → r ≠ b := fun r hr' e => by rw [e] at hr'; exact h.ne.2.1 hr'
  have ha0 : ∀ r, nv.ownBlock = some r → yv.ownBlock ≠ some r := fun r hr' q => h.ne.2.2.2.1 r hr' q
  have ha1 : ∀ r, bv.ownBlock = some r → yv.ownBlock ≠ some r := fun r hr' q => h.ne.2.2.2.2 r hr' q
  have hvG : ∀ i, v'.ownBlock = some i → G i ∨ w.heap.size ≤ i := fun i hi => by
    rcases hb with hb | ⟨r, hb, hl⟩
    · exact .inl (h.gy i (by rw [← hb]; exact hi))
    · rw [hb] at hi; cases hi; exact .inr hl
  refine ⟨hx, ⟨hx.set 2 v', h.n.keep fun r hr' => (gs.block r (Nat.lt_of_lt_of_le (h.n.lt r hr').2 g.size) fun q => hk0 r hr' (by simpa using q)).trans (g.block r (h.n.lt r hr').2 fun q => ha0 r hr' q.symm), h.bb.keep fun r hr' => (gs.block r (Nat.lt_of_lt_of_le (h.bb.lt r hr').2 g.size) fun q => hk1 r hr' (by simpa using q)).trans (g.block r (h.bb.lt r hr').2 fun q => ha1 r hr' q.symm), hr.keep fun r hr' => gs.block r (hr.lt r hr').2 fun q => hvb r hr' (by simpa using q), h.ap, .inl h.gb, fun r hr' => .inl (h.gn r hr'), fun r hr' => .inl (h.gv r hr'), fun r hr' => .inr hr', fun i hi => ?_⟩, ?_, hvG⟩
  · rcases hi with hi | hi
    · have := h.lt i hi
      have := g.size
      simp
      omega
    · simpa using (hr.lt i hi).2
  · exact (Fr.of_grown (F := G) g fun j hj => .inl (h.gy j hj)).trans (Fr.of_grown (F := G) gs fun j hj => .inl (by cases hj; exact h.gb)) fun _ _ h => h
/-- The two parts of a row around a place. -/
theorem RowL.parts {w : World} {e g n c : Nat} {xs : List Value} (h : RowL w 0 e (.slice (some ⟨g, 0, none⟩) n c) xs) {i : Nat} (hi : i < xs.length) {ad : Addr} (had : (if c = i + 1 then some ⟨g, 0, none⟩ else some ⟨g, i + 1, none⟩) = some ad) :
    RowL w 0 e (.slice (some ⟨g, 0, none⟩) i i) (xs.take i) ∧ ∀ j u, (xs.drop (i + 1))[j]? = some u → w.cell? (ad.add j) = some u := by
  rcases h with ⟨h1, _⟩ | ⟨g', cap, cur, h1, h2, h3, h4, h5, h6, h7⟩
  · cases h1
  · injection h1 with e1 e2 e3
    injection e1 with e1
    injection e1 with e1
    subst e1 e3
    have hlt : (xs.take i).length = i := by simp; omega
    refine ⟨.inr ⟨g, i, cur, by rw [hlt], h2, h3, by rw [hlt]; exact Nat.le_refl _, by omega, by omega, ?_⟩, fun j u hj => ?_⟩
    · rw [hlt, ← h7, List.take_take]
      congr 1
      omega
    · rw [List.getElem?_drop] at hj
      have hj' : i + 1 + j < xs.length := (List.getElem?_eq_some_iff.1 hj).1
      rw [if_neg (by omega)] at had
      cases had
      rw [Addr.add_lit]
      refine BxA.cell (t := e) (cs := cur) h3 _ u ?_
      rw [← h7, List.getElem?_take, if_pos hj'] at hj
      simpa using hj
theorem sv_drop1 (l : List Str) (k : Nat) : ∀ u ∈ (sv l).drop k, u.oneCell' = true := fun u hu => sv_one l u (List.mem_of_mem_drop hu)
theorem iv_drop1 (l : List Int) (k : Nat) : ∀ u ∈ (iv l).drop k, u.oneCell' = true := fun u hu => iv_one l u (List.mem_of_mem_drop hu)
theorem er_map {α β : Type} (f : α → β) (l : List α) (i : Nat) : (l.map f).eraseIdx i = (l.eraseIdx i).map f := by
  rw [List.eraseIdx_eq_take_drop_succ, List.eraseIdx_eq_take_drop_succ, List.map_append, List.map_take, List.map_drop]
theorem sv_er (E : List Fl) (k : Fl → Str) (i : Nat) : (sv (E.map k)).eraseIdx i = sv ((E.eraseIdx i).map k) := by unfold sv; rw [er_map, er_map]
theorem iv_er (E : List Fl) (k : Fl → Int) (i : Nat) : (iv (E.map k)).eraseIdx i = iv ((E.eraseIdx i).map k) := by unfold iv; rw [er_map, er_map]
theorem BkT.er {w : World} {b : Nat} {G : Nat → Prop} {E : List Fl} {i : Nat} {nv bv yv : Value} (h : BkT w b G nv bv yv ((sv (E.map Fl.nm)).eraseIdx i) ((sv (E.map Fl.bs)).eraseIdx i) ((iv (E.map fun f => (f.sy : Int))).eraseIdx i)) : BkT w b G nv bv yv (sv ((E.eraseIdx i).map Fl.nm)) (sv ((E.eraseIdx i).map Fl.bs)) (iv ((E.eraseIdx i).map fun f => (f.sy : Int))) := by
  rw [sv_er, sv_er, iv_er] at h
  exact h
set_option maxRecDepth 100000 in
set_option maxHeartbeats 6400000 in
theorem out_any (w : World) (b : Nat) (G : Nat → Prop) (E : List Fl) (i : Nat) (hi : i < E.length) (h : Bk w b G E) :
    Calls Try.prog 40 #[.pointer (some ⟨b, 0, none⟩), .int .i64 (i : Int)] w fun e w' => e = .returned (.tuple #[]) ∧ ∃ G', Bk w' b G' (E.eraseIdx i) ∧ (∀ j, G' j → G j ∨ w.heap.size ≤ j) ∧ Fr G w w' := by
  obtain ⟨i0, hi0, hz0, hz1, hz2⟩ := info_parts Try.info_str
  obtain ⟨j0, hj0, jz0, jz1, jz2⟩ := info_parts Try.info_int
  obtain ⟨nv, bv', yv, h⟩ := h
  have hfew := h.few
  obtain ⟨f0, hf0⟩ : ∃ f, E[i]? = some f := ⟨E[i], List.getElem?_eq_getElem hi⟩
  obtain ⟨g1, c1, hv1, -, -, k1, m1⟩ := h.n.get (i := i) (u := .string ⟨f0.nm.toArray⟩) (by simp [sv, hf0])
  obtain ⟨g2, c2, hv2, -, -, k2, m2⟩ := h.bb.get (i := i) (u := .string ⟨f0.bs.toArray⟩) (by simp [sv, hf0])
  obtain ⟨g3, c3, hv3, -, -, k3, m3⟩ := h.y.get (i := i) (u := .int .i64 (f0.sy : Int)) (by simp [iv, hf0])
  simp only [sv_length, iv_length, List.length_map] at hv1 hv2 hv3 k1 k2 k3
  subst hv1 hv2 hv3
  unfold maxLen at m1 m2 m3
  have adx : ∀ c g : Nat, ∃ ad : Addr, (if c = i + 1 then some (⟨g, 0, none⟩ : Addr) else some ⟨g, i + 1, none⟩) = some ad := fun c g => by
    by_cases q : c = i + 1
    · exact ⟨_, if_pos q⟩
    · exact ⟨_, if_neg q⟩
  obtain ⟨ad1, had1⟩ := adx c1 g1
  obtain ⟨ad2, had2⟩ := adx c2 g2
  obtain ⟨ad3, had3⟩ := adx c3 g3
  have HT : Hid _ := h.t
  have hw3 : wrap64 ((i : Int) + 1) = (i : Int) + 1 := by rw [← IntWalk.i64_left, IntKind.wrap_i64]; omega
  have hw4 : IntKind.i64.wrap ((i : Int) + 1) = (i : Int) + 1 := by rw [IntKind.wrap_i64]; omega
  have hnat : ((i : Int) + 1).toNat = i + 1 := by omega
  have hiz : (0 : Int) ≤ (i : Int) + 1 := by omega
  have hiE : (i : Int) + 1 ≤ (E.length : Int) := by omega
  have hic1 : (i : Int) ≤ (c1 : Int) := by omega
  have hic2 : (i : Int) ≤ (c2 : Int) := by omega
  have hic3 : (i : Int) ≤ (c3 : Int) := by omega
  have HC : Hid _ := And.intro had1 (And.intro had2 had3)
  have cx := h.x.cell 0 _ rfl
  have HSL : Hid (∀ l : List Str, l.length = E.length → ((sv l).take i).length = i ∧ ((sv l).drop (i + 1)).length = E.length - (i + 1)) := fun l hl => by simp [sv_length, hl]; omega
  have HIL : Hid (∀ l : List Int, l.length = E.length → ((iv l).take i).length = i ∧ ((iv l).drop (i + 1)).length = E.length - (i + 1)) := fun l hl => by simp [iv_length, hl]; omega
  have HIS : Hid (i < (sv (E.map Fl.nm)).length ∧ i < (sv (E.map Fl.bs)).length ∧ i < (iv (E.map fun f => (f.sy : Int))).length) := by apply hide; simp [sv_length, iv_length]; exact hi
  clear h adx hf0
  go_enter Try.func40, Try.ntmps40
  go_wp2_with fail
  go_cut [4] (fun _ wA => ∃ (a5 : Option Addr) (n5 m5 : Nat), Hid (BkT wA b (fun j => G j ∨ Value.ownBlock (.slice a5 n5 m5) = some j) (.slice a5 n5 m5) (.slice (some ⟨g2, 0, none⟩) E.length c2) (.slice (some ⟨g3, 0, none⟩) E.length c3) ((sv (E.map Fl.nm)).eraseIdx i) (sv (E.map Fl.bs)) (iv (E.map fun f => (f.sy : Int))) ∧ Fr (G) w wA ∧ ∀ j, Value.ownBlock (.slice a5 n5 m5) = some j → G j ∨ w.heap.size ≤ j))
  case first =>
   go_region_law (refine step_appL rfl (.tmp 11) (.tmp 18) 38 rfl 0 9 i0 (.string ⟨#[]⟩) 16 Try.underlying38 hi0 hz0 hz1 hz2 rfl (.slice (some ⟨g1, 0, none⟩) i i) ((sv (E.map Fl.nm)).take i) rfl (RowL.keep (HT.out.n.parts HIS.out.1 HC.out.1).1 fun _ _ => rfl) ad1 (E.length - (i + 1)) (c1 - (i + 1)) ((sv (E.map Fl.nm)).drop (i + 1)) rfl (HSL.out _ (by simp)).2 (HT.out.n.parts HIS.out.1 HC.out.1).2 (sv_drop1 _ _) (by rw [(HSL.out _ (by simp)).1]; unfold maxLen; omega) (by rw [(HSL.out _ (by simp)).1]; omega) (Nat.zero_le _) ?_; intro v1 q1 o1 e1 fr1; rw [← List.eraseIdx_eq_take_drop_succ] at o1; obtain ⟨xa1, xc1, hx1⟩ := o1.sl; subst hx1; have A1 := HT.out.n1 o1 ⟨e1.os, e1.tape, e1.output, e1.size, e1.block⟩ fr1; have cy1 := A1.1.cell 0 _ rfl; have fy1 := A1.1.free 0; have H1 : Hid _ := A1.2; clear A1 o1 e1 fr1)
   all_goals
    go_wp2_with fail
    go_meet
    case rel => exact ⟨_, _, _, H1.out⟩
  case rest =>
   rename World => Y1
   obtain ⟨xa1, xn1, xc1, HB1⟩ := hcut
   have HT2 : Hid _ := HB1.out.1
   have HF1 : Hid _ := HB1.out.2
   have cx2 := HB1.out.1.x.cell 1 _ rfl
   go_wp2_with fail
   go_cut [22] (fun _ wA => ∃ (a5 : Option Addr) (n5 m5 : Nat), Hid (BkT wA b (fun j => (fun j => G j ∨ Value.ownBlock (.slice xa1 xn1 xc1) = some j) j ∨ Value.ownBlock (.slice a5 n5 m5) = some j) (.slice xa1 xn1 xc1) (.slice a5 n5 m5) (.slice (some ⟨g3, 0, none⟩) E.length c3) ((sv (E.map Fl.nm)).eraseIdx i) ((sv (E.map Fl.bs)).eraseIdx i) (iv (E.map fun f => (f.sy : Int))) ∧ Fr ((fun j => G j ∨ Value.ownBlock (.slice xa1 xn1 xc1) = some j)) Y1 wA ∧ ∀ j, Value.ownBlock (.slice a5 n5 m5) = some j → (fun j => G j ∨ Value.ownBlock (.slice xa1 xn1 xc1) = some j) j ∨ Y1.heap.size ≤ j))
   case first =>
    go_region_law (refine step_appL rfl (.tmp 29) (.tmp 36) 38 rfl 0 9 i0 (.string ⟨#[]⟩) 16 Try.underlying38 hi0 hz0 hz1 hz2 rfl (.slice (some ⟨g2, 0, none⟩) i i) ((sv (E.map Fl.bs)).take i) rfl (RowL.keep (HT2.out.bb.parts HIS.out.2.1 HC.out.2.1).1 fun _ _ => rfl) ad2 (E.length - (i + 1)) (c2 - (i + 1)) ((sv (E.map Fl.bs)).drop (i + 1)) rfl (HSL.out _ (by simp)).2 (HT2.out.bb.parts HIS.out.2.1 HC.out.2.1).2 (sv_drop1 _ _) (by rw [(HSL.out _ (by simp)).1]; unfold maxLen; omega) (by rw [(HSL.out _ (by simp)).1]; omega) (Nat.zero_le _) ?_; intro v2 q2 o2 e2 fr2; rw [← List.eraseIdx_eq_take_drop_succ] at o2; obtain ⟨xa2, xc2, hx2⟩ := o2.sl; subst hx2; have A2 := HT2.out.b1 o2 ⟨e2.os, e2.tape, e2.output, e2.size, e2.block⟩ fr2; have cy2 := A2.1.cell 1 _ rfl; have fy2 := A2.1.free 1; have H2 : Hid _ := A2.2; clear A2 o2 e2 fr2)
    all_goals
     go_wp2_with fail
     go_meet
     case rel => exact ⟨_, _, _, H2.out⟩
   case rest =>
    rename World => Y2
    obtain ⟨xa2, xn2, xc2, HB2⟩ := hcut
    have HT3 : Hid _ := HB2.out.1
    have HF2 : Hid _ := HB2.out.2
    have cx3 := HB2.out.1.x.cell 2 _ rfl
    go_wp2_with fail
    go_region_law (refine step_appL rfl (.tmp 47) (.tmp 54) 39 rfl 0 3 j0 (.int .i64 0) 8 Try.underlying39 hj0 jz0 jz1 jz2 rfl (.slice (some ⟨g3, 0, none⟩) i i) ((iv (E.map fun f => (f.sy : Int))).take i) rfl (RowL.keep (HT3.out.y.parts HIS.out.2.2 HC.out.2.2).1 fun _ _ => rfl) ad3 (E.length - (i + 1)) (c3 - (i + 1)) ((iv (E.map fun f => (f.sy : Int))).drop (i + 1)) rfl (HIL.out _ (by simp)).2 (HT3.out.y.parts HIS.out.2.2 HC.out.2.2).2 (iv_drop1 _ _) (by rw [(HIL.out _ (by simp)).1]; unfold maxLen; omega) (by rw [(HIL.out _ (by simp)).1]; omega) (Nat.zero_le _) ?_; intro v3 q3 o3 e3 fr3; rw [← List.eraseIdx_eq_take_drop_succ] at o3; obtain ⟨xa3, xc3, hx3⟩ := o3.sl; subst hx3; have A3 := HT3.out.y1 o3 ⟨e3.os, e3.tape, e3.output, e3.size, e3.block⟩ fr3; have cy3 := A3.1.cell 2 _ rfl; have fy3 := A3.1.free 2; have H3 : Hid _ := A3.2; clear A3 o3 e3 fr3)
    all_goals
       have HT4 : Hid _ := H3.out.1
       have HF3 : Hid _ := H3.out.2
       go_wp2_with fail
       go_end0
       have hT := HT4.out
       refine ⟨rfl, _, ⟨_, _, _, hT.er.v (Nat.le_trans (List.length_eraseIdx_le E i) hfew)⟩, ?_, ?_⟩
       rotate_left
       · have f2 := HF1.out.1.trans HF2.out.1 fun j hj h => h.elim id fun h => (HF1.out.2 j h).elim id fun q => absurd hj (by omega)
         exact f2.trans HF3.out.1 fun j hj h => by
           rcases h with (h | h) | h
           · exact h
           · exact (HF1.out.2 j h).elim id fun q => absurd hj (by omega)
           · have s1 := HF1.out.1.size
             exact (HF2.out.2 j h).elim (fun h => h.elim id fun h => (HF1.out.2 j h).elim id fun q => absurd hj (by omega)) fun q => absurd hj (by omega)
       · have s1 := HF1.out.1.size
         have s2 := HF2.out.1.size
         intro j hj
         rcases hj with ((h | h) | h) | h
         · exact .inl h
         · exact HF1.out.2 j h
         · rcases HF2.out.2 j h with (h | h) | h
           · exact .inl h
           · exact HF1.out.2 j h
           · exact .inr (by omega)
         · rcases HF3.out.2 j h with ((h | h) | h) | h
           · exact .inl h
           · exact HF1.out.2 j h
           · rcases HF2.out.2 j h with (h | h) | h
             · exact .inl h
             · exact HF1.out.2 j h
             · exact .inr (by omega)
           · exact .inr (by omega)
end Go.Proofs.Ytdcoeebpknipdaa
