/- The law's book: a call is noted. -/
import Derived.Test.YtdcoeebpknipdaaNtC
namespace Go.Proofs.Ytdcoeebpknipdaa
open Go.RowKit Go.Maps Go.Sort

theorem BkV.cat1 {w : World} {b : Nat} {G : Nat → Prop} {E : List Fl} {nv yv : Value} {g n c : Nat} (h : BkV w b G E nv (.slice (some ⟨g, 0, none⟩) n c) yv) {i : Nat} {f : Fl} (hi : E[i]? = some f) (x : Str) {w3 : World} (hw3 : w3.heap = (w.setCell ⟨g, i, none⟩ (.string ⟨(f.bs ++ x).toArray⟩)).heap) (ho : w3.os = w.os ∧ w3.tape = w.tape ∧ w3.output = w.output) : Bk w3 b G (E.set i ⟨f.nm, f.bs ++ x, f.sy⟩) ∧ Fr G w w3 := by
  have gs0 := grown_setCell (w := w) (R := g) (j := i) (u := .string ⟨(f.bs ++ x).toArray⟩)
  have gs : w.grownBy w3 (some g) := ⟨ho.1, ho.2.1, ho.2.2, by rw [hw3]; exact gs0.size, fun i hi hr => by rw [hw3]; exact gs0.block i hi hr⟩
  have ht := h.t
  have hg : Value.ownBlock (.slice (some ⟨g, 0, none⟩) n c) = some g := rfl
  have h_nm : (E.set i ⟨f.nm, f.bs ++ x, f.sy⟩).map Fl.nm = E.map Fl.nm := by
    rw [List.map_set]
    exact set_same (by simp [hi])
  have h_bs : sv ((E.set i ⟨f.nm, f.bs ++ x, f.sy⟩).map Fl.bs) = (sv (E.map Fl.bs)).set i (.string ⟨(f.bs ++ x).toArray⟩) := by
    unfold sv
    rw [List.map_set, List.map_set]
  have h_sy : (E.set i ⟨f.nm, f.bs ++ x, f.sy⟩).map (fun x => (x.sy : Int)) = E.map (fun x => (x.sy : Int)) := by
    rw [List.map_set]
    exact set_same (by simp [hi])
  have hne := ht.ne
  refine ⟨⟨nv, .slice (some ⟨g, 0, none⟩) n c, yv, ?_⟩, Fr.of_grown gs fun j hj => .inl (by cases hj; exact h.gv g rfl)⟩
  refine ⟨?_, ?_, ?_, ?_, h.ap, h.gb, h.gn, h.gv, h.gy, by rw [List.length_set]; exact h.few, fun i hi => Nat.lt_of_lt_of_le (h.lt i hi) gs.size⟩
  · have := h.x
    unfold BxA at this ⊢
    rw [gs.block b h.x.lt (fun e => hne.2.1 (hg.trans e.symm))]
    exact this
  · rw [h_nm]
    exact h.n.keep fun r hr => gs.block r (h.n.lt r hr).2 fun e => h.ap r hr (hg.trans e.symm)
  · rw [h_bs]
    exact (h.bb.set i _).keep fun r _ => by rw [hw3]
  · rw [h_sy]
    exact h.y.keep fun r hr => gs.block r (h.y.lt r hr).2 fun e => hne.2.2.2.2 r (hg.trans e.symm) hr
theorem BkV.nam1 {w : World} {b : Nat} {G : Nat → Prop} {E : List Fl} {bv yv : Value} {g n c : Nat} (h : BkV w b G E (.slice (some ⟨g, 0, none⟩) n c) bv yv) {i : Nat} {f : Fl} (hi : E[i]? = some f) (x : Str) {w3 : World} (hw3 : w3.heap = (w.setCell ⟨g, i, none⟩ (.string ⟨x.toArray⟩)).heap) (ho : w3.os = w.os ∧ w3.tape = w.tape ∧ w3.output = w.output) : Bk w3 b G (E.set i ⟨x, f.bs, f.sy⟩) ∧ Fr G w w3 := by
  have gs0 := grown_setCell (w := w) (R := g) (j := i) (u := .string ⟨x.toArray⟩)
  have gs : w.grownBy w3 (some g) := ⟨ho.1, ho.2.1, ho.2.2, by rw [hw3]; exact gs0.size, fun i hi hr => by rw [hw3]; exact gs0.block i hi hr⟩
  have ht := h.t
  have hg : Value.ownBlock (.slice (some ⟨g, 0, none⟩) n c) = some g := rfl
  have h_nm : sv ((E.set i ⟨x, f.bs, f.sy⟩).map Fl.nm) = (sv (E.map Fl.nm)).set i (.string ⟨x.toArray⟩) := by
    unfold sv
    rw [List.map_set, List.map_set]
  have h_bs : (E.set i ⟨x, f.bs, f.sy⟩).map Fl.bs = E.map Fl.bs := by
    rw [List.map_set]
    exact set_same (by simp [hi])
  have h_sy : (E.set i ⟨x, f.bs, f.sy⟩).map (fun x => (x.sy : Int)) = E.map (fun x => (x.sy : Int)) := by
    rw [List.map_set]
    exact set_same (by simp [hi])
  have hne := ht.ne
  refine ⟨⟨.slice (some ⟨g, 0, none⟩) n c, bv, yv, ?_⟩, Fr.of_grown gs fun j hj => .inl (by cases hj; exact h.gn g rfl)⟩
  refine ⟨?_, ?_, ?_, ?_, h.ap, h.gb, h.gn, h.gv, h.gy, by rw [List.length_set]; exact h.few, fun i hi => Nat.lt_of_lt_of_le (h.lt i hi) gs.size⟩
  · have := h.x
    unfold BxA at this ⊢
    rw [gs.block b h.x.lt (fun e => hne.1 (hg.trans e.symm))]
    exact this
  · rw [h_nm]
    exact (h.n.set i _).keep fun r _ => by rw [hw3]
  · rw [h_bs]
    exact h.bb.keep fun r hr => gs.block r (h.bb.lt r hr).2 fun e => h.ap r (hg.trans e.symm) hr
  · rw [h_sy]
    exact h.y.keep fun r hr => gs.block r (h.y.lt r hr).2 fun e => hne.2.2.2.1 r (hg.trans e.symm) hr
theorem BkT.alloc {w : World} {b : Nat} {G : Nat → Prop} {nv bv yv : Value} {xn xb xy : List Value} (h : BkT w b G nv bv yv xn xb xy) (ob : Obj) : BkT (w.alloc ob) b G nv bv yv xn xb xy := by
  have hb : Below w.heap.size w (w.alloc ob) := (Below.refl _ _).alloc (Nat.le_refl _) _
  refine ⟨?_, h.n.keep fun r hr => hb.block r (h.n.lt r hr).2, h.bb.keep fun r hr => hb.block r (h.bb.lt r hr).2, h.y.keep fun r hr => hb.block r (h.y.lt r hr).2, h.ap, h.gb, h.gn, h.gv, h.gy, fun i hi => Nat.lt_of_lt_of_le (h.lt i hi) hb.size⟩
  have := h.x
  unfold BxA at this ⊢
  rw [hb.block _ h.x.lt]
  exact this
theorem lit_cell (w : World) (u : Value) (t : TypeId) : ∀ j v, [u][j]? = some v → (w.alloc (.cells #[u] t)).cell? ((⟨w.heap.size, 0, none⟩ : Addr).add j) = some v := fun j v hj => by
  cases j with
  | zero => simp only [List.getElem?_cons_zero, Option.some.injEq] at hj; subst hj; exact (BxA.new w t #[u]).cell 0 _ rfl
  | succ j => simp at hj
theorem RowL.sl1 {w : World} {base e n : Nat} {v u : Value} {xs : List Value} (h : RowL w base e v (xs ++ [u])) (hn : xs.length = n) : ∃ a c, v = .slice a (n + 1) c := by
  obtain ⟨a, c, e⟩ := h.sl
  exact ⟨a, c, by rw [e, List.length_append, hn]; rfl⟩
structure BkN (w w3 : World) (b : Nat) (G : Nat → Prop) (nv bv yv : Value) (xn xb xy : List Value) : Prop where
  ex : ∃ G1, BkT w3 b G1 nv bv yv xn xb xy ∧ Fr G w w3 ∧ ∀ i, G1 i → G i ∨ w.heap.size ≤ i
  x : BxA w3 b 41 #[nv, bv, yv]
theorem BkT.n2 {w q : World} {b : Nat} {G : Nat → Prop} {nv bv yv v' : Value} {xn xb xy x' : List Value} (h : BkT w b G nv bv yv xn xb xy) (ob : Obj) (hr : RowL q 0 9 v' x') (g : (w.alloc ob).grownBy q nv.ownBlock) (hb : v'.ownBlock = nv.ownBlock ∨ ∃ r, v'.ownBlock = some r ∧ (w.alloc ob).heap.size ≤ r) :
    BxA q b 41 #[nv, bv, yv] ∧ BkN w (q.setCell ⟨b, 0, none⟩ v') b G v' bv yv x' xb xy := by
  have hA : Below w.heap.size w (w.alloc ob) := (Below.refl _ _).alloc (Nat.le_refl _) _
  have hs := hA.size
  obtain ⟨h1, h2, h3, h4⟩ := (h.alloc ob).n1 hr g hb
  refine ⟨h1, ⟨_, h2, (Fr.of_below hA).trans h3 fun _ _ h => h, fun i hi => ?_⟩, h2.x⟩
  rcases hi with hi | hi
  · exact .inl hi
  · exact (h4 i hi).imp id fun h => Nat.le_trans hs h
theorem BkT.b2 {w q : World} {b : Nat} {G : Nat → Prop} {nv bv yv v' : Value} {xn xb xy x' : List Value} (h : BkT w b G nv bv yv xn xb xy) (ob : Obj) (hr : RowL q 0 9 v' x') (g : (w.alloc ob).grownBy q bv.ownBlock) (hb : v'.ownBlock = bv.ownBlock ∨ ∃ r, v'.ownBlock = some r ∧ (w.alloc ob).heap.size ≤ r) :
    BxA q b 41 #[nv, bv, yv] ∧ BkN w (q.setCell ⟨b, 1, none⟩ v') b G nv v' yv xn x' xy := by
  have hA : Below w.heap.size w (w.alloc ob) := (Below.refl _ _).alloc (Nat.le_refl _) _
  have hs := hA.size
  obtain ⟨h1, h2, h3, h4⟩ := (h.alloc ob).b1 hr g hb
  refine ⟨h1, ⟨_, h2, (Fr.of_below hA).trans h3 fun _ _ h => h, fun i hi => ?_⟩, h2.x⟩
  rcases hi with hi | hi
  · exact .inl hi
  · exact (h4 i hi).imp id fun h => Nat.le_trans hs h
theorem BkT.y2 {w q : World} {b : Nat} {G : Nat → Prop} {nv bv yv v' : Value} {xn xb xy x' : List Value} (h : BkT w b G nv bv yv xn xb xy) (ob : Obj) (hr : RowL q 0 3 v' x') (g : (w.alloc ob).grownBy q yv.ownBlock) (hb : v'.ownBlock = yv.ownBlock ∨ ∃ r, v'.ownBlock = some r ∧ (w.alloc ob).heap.size ≤ r) :
    BxA q b 41 #[nv, bv, yv] ∧ BkN w (q.setCell ⟨b, 2, none⟩ v') b G nv bv v' xn xb x' := by
  have hA : Below w.heap.size w (w.alloc ob) := (Below.refl _ _).alloc (Nat.le_refl _) _
  have hs := hA.size
  obtain ⟨h1, h2, h3, h4⟩ := (h.alloc ob).y1 hr g hb
  refine ⟨h1, ⟨_, h2, (Fr.of_below hA).trans h3 fun _ _ h => h, fun i hi => ?_⟩, h2.x⟩
  rcases hi with hi | hi
  · exact .inl hi
  · exact (h4 i hi).imp id fun h => Nat.le_trans hs h
theorem lit_cell2 (q : World) (a : Addr) (y u : Value) (t : TypeId) : ∀ j v, [u][j]? = some v → ((q.setCell a y).alloc (.cells #[u] t)).cell? ((⟨q.heap.size, 0, none⟩ : Addr).add j) = some v := by
  have e : (q.setCell a y).heap.size = q.heap.size := by simp
  have := lit_cell (q.setCell a y) u t
  rw [e] at this
  exact this
/-- One row more in the book. -/
theorem BkT.grow {w : World} {b : Nat} {G : Nat → Prop} {E : List Fl} {nv bv yv : Value} (nm : Str) (h : BkT w b G nv bv yv (sv (E.map Fl.nm) ++ [.string ⟨nm.toArray⟩]) (sv (E.map Fl.bs) ++ [.string ⟨#[]⟩]) (iv (E.map fun f => (f.sy : Int)) ++ [.int .i64 0])) (hl : E.length < 1000) : BkV w b G (E ++ [⟨nm, [], 0⟩]) nv bv yv := by
  have e1 : sv ((E ++ [(⟨nm, [], 0⟩ : Fl)]).map Fl.nm) = sv (E.map Fl.nm) ++ [.string ⟨nm.toArray⟩] := by simp [sv]
  have e2 : sv ((E ++ [(⟨nm, [], 0⟩ : Fl)]).map Fl.bs) = sv (E.map Fl.bs) ++ [.string ⟨#[]⟩] := by simp [sv]
  have e3 : iv ((E ++ [(⟨nm, [], 0⟩ : Fl)]).map fun f => (f.sy : Int)) = iv (E.map fun f => (f.sy : Int)) ++ [.int .i64 0] := by simp [iv]
  refine BkT.v ?_ (by simp; omega)
  rw [e1, e2, e3]
  exact h
set_option maxRecDepth 100000 in
set_option maxHeartbeats 3200000 in
theorem note_app (w : World) (b d N : Nat) (G F : Nat → Prop) (E : List Fl) (s : St) (K M : Int) (A B : Str) (u : Value) (hK1 : -9223372036854775808 ≤ K) (hK2 : K ≤ 9223372036854775807) (bs : Str) (hk : absN K % 6 < 3) (hA : A.length ≤ maxLen) (hB : Bk w b G E) (hD : Dk w d F N s) (hap : ∀ i, G i → ¬ F i) (hop : s.ops < 1000000) (hu : ∀ w', Fr (fun i => G i ∨ F i) w w' → Reads w' u bs) (hE : ∀ f ∈ E, f.bs.length ≤ N) (hN : N + bs.length ≤ 140737488355328) (hEl : E.length < 1000) :
    Calls Try.prog 16 #[.pointer (some ⟨b, 0, none⟩), .pointer (some ⟨d, 0, none⟩), .agg #[.int .i64 K, .string ⟨A.toArray⟩, .string ⟨B.toArray⟩, u, .int .i64 M]] w fun e w' => ∃ z, At1 E (nmK A.length) z ∧ e = .returned (.bool (decide ((s.append (nmK A.length) bs).1 = 0))) ∧ Nt w w' b d G F (N + bs.length) (s.append (nmK A.length) bs).2 (if 0 ≤ z then E.set z.toNat ⟨(E.getD z.toNat ⟨[], [], 0⟩).nm, (E.getD z.toNat ⟨[], [], 0⟩).bs ++ bs, (E.getD z.toNat ⟨[], [], 0⟩).sy⟩ else E ++ [⟨nmK A.length, bs, 0⟩]) := by
  obtain ⟨i0, hi0, hz0, hz1, hz2⟩ := info_parts Try.info_str
  obtain ⟨j0, hj0, jz0, jz1, jz2⟩ := info_parts Try.info_int
  unfold maxLen at hA
  obtain ⟨W, hW⟩ : ∃ W, W = w.alloc (.cells #[.int .i64 K, .string ⟨A.toArray⟩, .string ⟨B.toArray⟩, u, .int .i64 M] 31) := ⟨_, rfl⟩
  have bW : Below w.heap.size w W := by rw [hW]; exact (Below.refl _ _).alloc (Nat.le_refl _) _
  have hx : BxA W w.heap.size 31 #[.int .i64 K, .string ⟨A.toArray⟩, .string ⟨B.toArray⟩, u, .int .i64 M] := by rw [hW]; exact BxA.new _ _ _
  have kN := name_any W A.length (by omega)
  have hsz := str_size A
  obtain ⟨nm, hnm⟩ : ∃ nm, nm = nmK A.length := ⟨_, rfl⟩
  have hnl : nm.length ≤ maxLen := by
    have := (nmK_facts A.length).2
    rw [← hnm] at this
    simp only [nmL, List.mem_cons, List.not_mem_nil, or_false] at this
    unfold maxLen
    rcases this with rfl | rfl | rfl | rfl | rfl <;> simp
  rw [← hnm] at kN
  rw [← hnm]
  obtain ⟨cd, hcd⟩ : ∃ cd, cd = (s.append nm bs).1 := ⟨_, rfl⟩
  have HCD : Hid (cd = (s.append nm bs).1) := hcd
  have HU : Hid (∀ w', Fr (fun i => G i ∨ F i) w w' → Reads w' u bs) := hu
  have HE : Hid (∀ f ∈ E, f.bs.length ≤ N) := hE
  clear hcd hu hE
  have HW : Hid (W = _) := hW
  have HX : Hid (BxA W w.heap.size 31 #[.int .i64 K, .string ⟨A.toArray⟩, .string ⟨B.toArray⟩, u, .int .i64 M]) := hx
  have HK : Hid _ := And.intro hK1 hK2
  have HBW : Hid (Below w.heap.size w W) := bW
  have HB : Hid (Bk w b G E) := hB
  have HD : Hid (Dk w d F N s) := hD
  have HAP : Hid (∀ i, G i → ¬ F i) := hap
  have HNL : Hid _ := hnl
  have hc1 := hx.cell 1 _ rfl
  clear hW hx hnm hnl bW hB hD hap hK1 hK2
  go_enter Try.func16, Try.ntmps16
  go_wp2_with fail
  rw [← HW.out]
  go_wp2_with fail
  refine kN.mono ?_
  rintro e w1 ⟨rfl, b1⟩
  have HB1 : Hid (Below w.heap.size w w1) := HBW.out.trans (b1.mono HBW.out.size)
  have HX1 : Hid (BxA w1 w.heap.size 31 #[.int .i64 K, .string ⟨A.toArray⟩, .string ⟨B.toArray⟩, u, .int .i64 M]) := by
    apply hide
    have := HX.out
    unfold BxA at this ⊢
    rw [b1.block _ HX.out.lt]
    exact this
  have hc0 := HX1.out.cell 0 _ rfl
  have kAt := at_any w1 b G E nm (HB.out.below HB1.out)
  have kAb := abs_any w1 K HK.out.1 HK.out.2
  obtain ⟨kd, hkd⟩ : ∃ kd : Nat, kd = absN K % 6 := ⟨_, rfl⟩
  have hab : (absN K : Int) % 6 = (kd : Int) := by omega
  have hkd3 : kd = 0 ∨ kd = 1 ∨ kd = 2 := by omega
  clear kN b1 hc1
  go_wp2_with fail
  refine kAt.mono ?_
  rintro e w1' ⟨z, rfl, hz, rfl⟩
  have HZ : Hid (At1 E nm z) := hz
  have hzb := hz.lt
  have hzg := hz.ge
  have hfew := HB.out.few
  have hcz := code_dec cd
  clear kAt hz
  go_wp2_with fail
  refine kAb.mono ?_
  rintro e w1'' ⟨rfl, rfl⟩
  clear kAb hkd hk
  rcases hkd3 with rfl | rfl | rfl
  all_goals
    by_cases h0 : 0 ≤ z
    · obtain ⟨i, hi⟩ : ∃ i : Nat, z = (i : Int) := ⟨z.toNat, by omega⟩
      subst hi
      have hil : i < E.length := by omega
      obtain ⟨f, hf⟩ : ∃ f, E[i]? = some f := ⟨E[i], List.getElem?_eq_getElem hil⟩
      have HGD : Hid (E.getD i ⟨[], [], 0⟩ = f) := by apply hide; simp [List.getD, hf]
      obtain ⟨nv, bv', yv, hv⟩ := HB.out.below HB1.out
      obtain ⟨g2, c2, hv2, r2, fz2, k2, m2⟩ := hv.bb.get (i := i) (u := .string ⟨f.bs.toArray⟩) (by simp [sv, hf])
      simp only [sv_length, List.length_map] at hv2 k2
      subst hv2
      unfold maxLen at m2
      have cb1 := hv.x.cell 1 _ rfl
      have cx3 := HX1.out.cell 3 _ rfl
      have hsum : f.bs.length + bs.length ≤ 9223372036854775807 := by have := HE.out f (List.mem_of_getElem? hf); omega
      have hcv1 := conv_string w1'' u bs (HU.out _ (fr_below HB1.out))
      have hcv2 := conv_string w1''.drew u bs (HU.out _ (fr_below HB1.out)).drew
      have HV : Hid _ := hv
      have HF : Hid (E[i]? = some f) := hf
      clear hv hf
      go_wp2_with fail
      go_region
      have e3 := ByteArray.mk_append_mk f.bs bs
      have A3 := HV.out.cat1 HF.out bs (w3 := (w1''.setCell ⟨g2, i, none⟩ (.string (⟨f.bs.toArray⟩ ++ ⟨bs.toArray⟩))).drew) (by rw [e3]; rfl) ⟨rfl, rfl, rfl⟩
      have s3 := A3.2.size
      have hF1 : ∀ i, F i → ¬ G i := fun i h1 h2 => HAP.out i h2 h1
      have r3 : Reads (w1''.setCell ⟨g2, i, none⟩ (.string (⟨f.bs.toArray⟩ ++ ⟨bs.toArray⟩))).drew u bs := HU.out _ ((fr_below HB1.out).trans (A3.2.mono fun _ h => .inl h) fun _ _ h => h)
      have hx3 : BxA (w1''.setCell ⟨g2, i, none⟩ (.string (⟨f.bs.toArray⟩ ++ ⟨bs.toArray⟩))).drew w.heap.size 31 #[.int .i64 K, .string ⟨A.toArray⟩, .string ⟨B.toArray⟩, u, .int .i64 M] := by
        have := HX1.out
        unfold BxA at this ⊢
        rw [A3.2.block _ HX1.out.lt fun hg => by have := HB.out.lt _ hg; omega]
        exact this
      have cx4 := hx3.cell 3 _ rfl
      have kA := append_any (w1''.setCell ⟨g2, i, none⟩ (.string (⟨f.bs.toArray⟩ ++ ⟨bs.toArray⟩))).drew d N F s nm u bs ((HD.out.below HB1.out).other A3.2 hF1) HNL.out (fun w' hf => HU.out _ (((fr_below HB1.out).trans (A3.2.mono fun _ h => .inl h) fun _ _ h => h).trans (hf.mono fun _ h => .inr h) fun _ _ h => h)) hN hop
      rw [← HCD.out] at kA
      have H3 : Hid _ := A3
      clear A3 r3 hx3 s3 hF1 e3
      go_wp2_with fail
      refine kA.mono ?_
      rintro e w4 ⟨rfl, ⟨F4, d4, hF4⟩, f4⟩
      have H4 : Hid _ := d4
      have HF4 : Hid _ := hF4
      have HR4 : Hid _ := f4
      clear kA d4 hF4 f4
      go_wp2_with fail
      go_ret
      refine ⟨_, HZ.out, ?_, ?_⟩
      · rw [← HCD.out]
        simp [code_beq]
      · rw [if_pos (by omega)]
        simp only [Int.toNat_natCast]
        rw [HGD.out]
        exact Nt.two' HB1.out H3.out.1 (fun _ h => .inl h) H3.out.2 HAP.out HD.out.lt H4.out HF4.out HR4.out
    · have hno : ∀ f ∈ E, f.nm ≠ nm := by
        rcases HZ.out with ⟨q, f, _, _, e⟩ | ⟨h, _⟩
        · omega
        · exact h
      have HNO : Hid _ := hno
      obtain ⟨nv, bv', yv, hv⟩ := HB.out.below HB1.out
      obtain ⟨na, nc, hnv⟩ := hv.n.sl
      obtain ⟨ba, bc, hbv⟩ := hv.bb.sl
      obtain ⟨ya, yc, hyv⟩ := hv.y.sl
      simp only [sv_length, iv_length, List.length_map] at hnv hbv hyv
      subst hnv hbv hyv
      have HT : Hid _ := hv.t
      have cb0 := hv.x.cell 0 _ rfl
      have hsl : (sv (E.map Fl.nm)).length = E.length := by simp [sv_length]
      have hsl2 : (sv (E.map Fl.bs)).length = E.length := by simp [sv_length]
      have hsl3 : (iv (E.map fun f => (f.sy : Int))).length = E.length := by simp [iv_length]
      have HS1 : Hid _ := hsl
      have HS2 : Hid _ := hsl2
      have HS3 : Hid _ := hsl3
      clear hv hno hsl hsl2 hsl3
      go_wp2_with (first | (at_builtin; refine wpList_appL rfl _ _ 38 rfl 0 9 i0 (.string ⟨#[]⟩) 16 Try.underlying38 hi0 hz0 hz1 hz2 rfl (.slice na E.length nc) (sv (E.map Fl.nm)) rfl (HT.out.alloc _).n ⟨w1''.heap.size, 0, none⟩ 1 1 [.string ⟨nm.toArray⟩] rfl rfl (lit_cell _ _ _) (fun u hu => by simp at hu; subst hu; rfl) (by rw [HS1.out]; unfold maxLen; omega) (by rw [HS1.out]; omega) (Nat.zero_le _) ?_; intro v1 q1 o1 g1 fr1; obtain ⟨xa1, xc1, hx1⟩ := o1.sl1 HS1.out; subst hx1; have A1 := HT.out.n2 _ o1 g1 fr1; have cy1 := A1.1.cell 0 _ rfl; have fy1 := A1.1.free 0; have cw1 := A1.2.x.cell 1 _ rfl; obtain ⟨⟨G1, t1, f1, hG1⟩, -⟩ := A1.2; have HT1 : Hid _ := t1; have HF1 : Hid _ := f1; have HG1 : Hid _ := hG1; clear A1 o1 g1 fr1 t1 f1 hG1) | (at_builtin; refine wpList_appL rfl _ _ 38 rfl 0 9 i0 (.string ⟨#[]⟩) 16 Try.underlying38 hi0 hz0 hz1 hz2 rfl (.slice ba E.length bc) (sv (E.map Fl.bs)) rfl (HT1.out.alloc _).bb ⟨q1.heap.size, 0, none⟩ 1 1 [.string ⟨#[]⟩] rfl rfl (lit_cell2 _ _ _ _ _) (fun u hu => by simp at hu; subst hu; rfl) (by rw [HS2.out]; unfold maxLen; omega) (by rw [HS2.out]; omega) (Nat.zero_le _) ?_; intro v2 q2 o2 g2 fr2; obtain ⟨xa2, xc2, hx2⟩ := o2.sl1 HS2.out; subst hx2; have A2 := HT1.out.b2 _ o2 g2 fr2; have cy2 := A2.1.cell 1 _ rfl; have fy2 := A2.1.free 1; have cw2 := A2.2.x.cell 2 _ rfl; obtain ⟨⟨G2, t2, f2, hG2⟩, -⟩ := A2.2; have HT2 : Hid _ := t2; have HF2 : Hid _ := f2; have HG2 : Hid _ := hG2; clear A2 o2 g2 fr2 t2 f2 hG2) | (at_builtin; refine wpList_appL rfl _ _ 39 rfl 0 3 j0 (.int .i64 0) 8 Try.underlying39 hj0 jz0 jz1 jz2 rfl (.slice ya E.length yc) (iv (E.map fun f => (f.sy : Int))) rfl (HT2.out.alloc _).y ⟨q2.heap.size, 0, none⟩ 1 1 [.int .i64 0] rfl rfl (lit_cell2 _ _ _ _ _) (fun u hu => by simp at hu; subst hu; rfl) (by rw [HS3.out]; unfold maxLen; omega) (by rw [HS3.out]; omega) (Nat.zero_le _) ?_; intro v3 q3 o3 g3 fr3; obtain ⟨xa3, xc3, hx3⟩ := o3.sl1 HS3.out; subst hx3; have A3 := HT2.out.y2 _ o3 g3 fr3; have cy3 := A3.1.cell 2 _ rfl; have fy3 := A3.1.free 2; obtain ⟨⟨G3, t3, f3, hG3⟩, -⟩ := A3.2; have HT3 : Hid _ := t3; have HF3 : Hid _ := f3; have HG3 : Hid _ := hG3; clear A3 o3 g3 fr3 t3 f3 hG3))
      obtain ⟨X3, hX3⟩ : ∃ X, X = q3.setCell ⟨b, 2, none⟩ (.slice xa3 (E.length + 1) xc3) := ⟨_, rfl⟩
      rw [← hX3] at HT3 HF3
      rw [← hX3]
      have HFA : Hid (Fr G w1'' X3) := by
        apply hide
        have s1 := HF1.out.size
        have s2 := HF2.out.size
        refine (HF1.out.trans HF2.out fun j hj h => ?_).trans HF3.out fun j hj h => ?_
        · exact (HG1.out j h).elim id fun q => absurd hj (by omega)
        · rcases HG2.out j h with h | h
          · exact (HG1.out j h).elim id fun q => absurd hj (by omega)
          · exact absurd hj (by omega)
      have HGA : Hid (∀ j, G3 j → G j ∨ w1''.heap.size ≤ j) := by
        apply hide
        have s1 := HF1.out.size
        have s2 := HF2.out.size
        intro j h
        rcases HG3.out j h with h | h
        · rcases HG2.out j h with h | h
          · exact HG1.out j h
          · exact .inr (by omega)
        · exact .inr (by omega)
      have hv3 := HT3.out.grow nm hEl
      clear hX3 HF1 HF2 HF3 HG1 HG2 HG3 HT1 HT2 cy1 fy1 cw1 cy2 fy2 cw2 cy3 fy3
      obtain ⟨g2, c2, hv2, r2, fz2, k2, m2⟩ := hv3.bb.get (i := E.length) (u := .string ⟨#[]⟩) (by simp [sv])
      have hln : (sv ((E ++ [(⟨nm, [], 0⟩ : Fl)]).map Fl.bs)).length = E.length + 1 := by simp [sv]
      rw [hln] at hv2 k2
      simp only [Value.slice.injEq] at hv2
      obtain ⟨rfl, -, rfl⟩ := hv2
      unfold maxLen at m2
      have hxn : ¬ G w.heap.size := fun hg => by have := HB.out.lt _ hg; omega
      have HXN : Hid _ := hxn
      have hx3 : BxA X3 w.heap.size 31 #[.int .i64 K, .string ⟨A.toArray⟩, .string ⟨B.toArray⟩, u, .int .i64 M] := by
        have := HX1.out
        unfold BxA at this ⊢
        rw [HFA.out.block _ HX1.out.lt hxn]
        exact this
      have HX3 : Hid _ := hx3
      have cx3 := hx3.cell 3 _ rfl
      have cb1 := hv3.x.cell 1 _ rfl
      have hr3 : Reads X3 u bs := HU.out _ ((fr_below HB1.out).trans (HFA.out.mono fun _ h => .inl h) fun _ _ h => h)
      have HR3 : Hid _ := hr3
      have hcv1 := conv_string X3 u bs hr3
      have hcv2 := conv_string X3.drew u bs hr3.drew
      have hsum : bs.length ≤ 9223372036854775807 := by omega
      have hsum0 : 0 + bs.length ≤ 9223372036854775807 := by omega
      have hlt : (E.length : Int) < ((E.length + 1 : Nat) : Int) := by omega
      have hlt' : E.length < E.length + 1 := by omega
      have HV : Hid _ := hv3
      clear hv3 hx3 hr3 hxn HT HT3
      go_wp2_with fail
      go_region
      have e3 : ((⟨#[]⟩ : ByteArray) ++ ⟨bs.toArray⟩) = ⟨(([] : Str) ++ bs).toArray⟩ := ByteArray.mk_append_mk [] bs
      have A3 := HV.out.cat1 (i := E.length) (f := ⟨nm, [], 0⟩) (by simp) bs (w3 := (X3.setCell ⟨g2, E.length, none⟩ (.string (⟨#[]⟩ ++ ⟨bs.toArray⟩))).drew) (by rw [e3]; rfl) ⟨rfl, rfl, rfl⟩
      have hset : (E ++ [(⟨nm, [], 0⟩ : Fl)]).set E.length ⟨nm, [] ++ bs, 0⟩ = E ++ [⟨nm, bs, 0⟩] := by simp
      rw [hset] at A3
      obtain ⟨B3, f3⟩ := A3
      have s0 := HFA.out.size
      have f3' : Fr G w1'' (X3.setCell ⟨g2, E.length, none⟩ (.string (⟨#[]⟩ ++ ⟨bs.toArray⟩))).drew := HFA.out.trans f3 fun j hj h => (HGA.out j h).elim id fun q => absurd hj (by omega)
      have hF1 : ∀ i, F i → ¬ G i := fun i h1 h2 => HAP.out i h2 h1
      have r3 : Reads (X3.setCell ⟨g2, E.length, none⟩ (.string (⟨#[]⟩ ++ ⟨bs.toArray⟩))).drew u bs := HU.out _ ((fr_below HB1.out).trans (f3'.mono fun _ h => .inl h) fun _ _ h => h)
      have hx3 : BxA (X3.setCell ⟨g2, E.length, none⟩ (.string (⟨#[]⟩ ++ ⟨bs.toArray⟩))).drew w.heap.size 31 #[.int .i64 K, .string ⟨A.toArray⟩, .string ⟨B.toArray⟩, u, .int .i64 M] := by
        have := HX1.out
        unfold BxA at this ⊢
        rw [f3'.block _ HX1.out.lt HXN.out]
        exact this
      have cx4 := hx3.cell 3 _ rfl
      have kA := append_any (X3.setCell ⟨g2, E.length, none⟩ (.string (⟨#[]⟩ ++ ⟨bs.toArray⟩))).drew d N F s nm u bs ((HD.out.below HB1.out).other f3' hF1) HNL.out (fun w' hf => HU.out _ (((fr_below HB1.out).trans (f3'.mono fun _ h => .inl h) fun _ _ h => h).trans (hf.mono fun _ h => .inr h) fun _ _ h => h)) hN hop
      rw [← HCD.out] at kA
      have H3 : Hid (Bk (X3.setCell ⟨g2, E.length, none⟩ (.string (⟨#[]⟩ ++ ⟨bs.toArray⟩))).drew b G3 (E ++ [⟨nm, bs, 0⟩])) := B3
      have HR3' : Hid (Fr G w1'' (X3.setCell ⟨g2, E.length, none⟩ (.string (⟨#[]⟩ ++ ⟨bs.toArray⟩))).drew) := f3'
      clear B3 f3 f3' r3 hx3 hF1 e3 hset s0
      go_wp2_with fail
      refine kA.mono ?_
      rintro e w4 ⟨rfl, ⟨F4, d4, hF4⟩, f4⟩
      have H4 : Hid _ := d4
      have HF4 : Hid _ := hF4
      have HR4 : Hid _ := f4
      clear kA d4 hF4 f4
      go_wp2_with fail
      go_ret
      refine ⟨_, HZ.out, ?_, ?_⟩
      · rw [← HCD.out]
        simp [code_beq]
      · rw [if_neg (by omega)]
        exact Nt.two' HB1.out H3.out HGA.out HR3'.out HAP.out HD.out.lt H4.out HF4.out HR4.out
end Go.Proofs.Ytdcoeebpknipdaa
