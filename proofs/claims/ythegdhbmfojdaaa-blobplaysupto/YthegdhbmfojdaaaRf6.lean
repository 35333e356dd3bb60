/- The reference's disk: out. -/
import Derived.Test.YthegdhbmfojdaaaRf5
import Derived.Deep.WholeRow
namespace Go.Proofs.Ythegdhbmfojdaaa
open Go.RowKit Go.Maps Go.Sort
set_option linter.unusedVariables false

theorem Try.info_file : (Try.prog.info? 79).map (fun i => (i.zero, i.size, i.bytes)) = some (some (.agg #[.string ⟨#[]⟩, .slice none 0 0, .int .i64 0]), 3, 48) := by kernel_rfl
/-- A whole struct into the block that was made last. -/
theorem wpList_storeN {P : Program} {ops : Array Oper} {rest : List Oper} {op : Oper} {a : Act} {w : World} {Q : Exit → Act → World → Prop} (hgd : op.guard = none) (ty : TypeId) (x y : Operand) (ho : op.op = .store ty x y)
    (w0 : World) (c c' : Array Value) (hw : w = w0.alloc (.cells c ty)) (hx : a.eval x = .pointer (some ⟨w0.heap.size, 0, none⟩)) (hy : a.eval y = .agg c')
    (hi : (P.info? ty).map (·.size) = some c'.size) (hc : c.size = c'.size) (h1 : c'.all (·.oneCell') = true)
    (h : wpList P ops Q rest (a.put op.dst undef) (w0.alloc (.cells c' ty))) : wpList P ops Q (op :: rest) a w := by
  subst hw
  refine wpList_plain hgd fun _ hK => ?_
  unfold Oper.wp execOp
  simp only [ho, hx, hy, Instr.storeAt, Instr.sureAddr, Sem.run_bind, Sem.run_pure, Result.andThen_ok, run_storeVar_new w0 ty c c' hi hc h1]
  exact hK _ _ h
theorem rcs_one (Z : List RE) (h : ∀ x ∈ Z, x.v.oneCell' = true) : ∀ u ∈ rcs Z, u.oneCell' = true := by
  intro u hu
  unfold rcs at hu
  obtain ⟨x, hx, hu⟩ := List.mem_flatMap.1 hu
  simp only [RE.cs, List.mem_cons, List.not_mem_nil, or_false] at hu
  rcases hu with rfl | rfl | rfl
  · rfl
  · exact h x hx
  · rfl
theorem rcs_append (A B : List RE) : rcs (A ++ B) = rcs A ++ rcs B := by unfold rcs; rw [List.flatMap_append]
theorem own_one {w : World} {base : Nat} {v : Value} {l : Str} (h : Owns w base v l) : v.oneCell' = true := by
  obtain ⟨a, c, e, _⟩ := h.reads
  rw [e]
  rfl
theorem ownk_mono {M e k n : Nat} {w : World} {v : Value} {xs : List Value} (h : w.ownsRow M e k v n xs) : w.ownsRow 0 e k v n xs := own_mono h (Nat.zero_le _)
theorem bx_keep {w w' : World} {b r o : Nat} {ty : TypeId} {cs : Array Value} {u : Value} (h : BxA w b ty cs) (hb : RowKit.Below w.heap.size w w') (hr : b ≠ r) : BxA (w'.setCell ⟨r, o, none⟩ u) b ty cs := by
  have := h
  unfold BxA at this ⊢
  rw [Below.heap_setCell _ _ _ _ hr, hb.block _ (BxA.lt h)]
  exact this
theorem rdsk_zero (w : World) (a : Addr) : RdsK 3 w (.slice (some a) 0 0) 0 [] := ⟨some a, 0, rfl, rfl, Nat.le_refl _, Nat.zero_le _, (fun q => by cases q), fun _ _ j u hj => by simp at hj⟩
/-- A piece of the row of files reads as its files. -/
theorem RZ.piece {w : World} {r N g n cap : Nat} {F : Nat → Prop} {s : RSt} {Z : List RE} (h : RZ w r F N s (.slice (some ⟨g, 0, none⟩) n cap) Z) (hn : n = Z.length) (lo hi c : Nat) (hlh : lo ≤ hi) (hh : hi ≤ Z.length) (hc : hi - lo ≤ c) (hm : c ≤ maxLen) : RdsK 3 w (.slice (some ⟨g, lo * 3, none⟩) (hi - lo) c) (hi - lo) (rcs ((Z.take hi).drop lo)) := by
  subst hn
  refine ⟨some ⟨g, lo * 3, none⟩, c, rfl, ?_, hc, hm, (fun q => by cases q), ?_⟩
  · rw [rcs_len, List.length_drop, List.length_take, Nat.min_eq_left hh]
  · rintro ad ⟨rfl⟩ j u hj
    have hl : j < ((Z.take hi).drop lo).length * 3 := by
      have := (List.getElem?_eq_some_iff.1 hj).1
      rwa [rcs_len] at this
    have hlen : ((Z.take hi).drop lo).length = hi - lo := by rw [List.length_drop, List.length_take, Nat.min_eq_left hh]
    obtain ⟨i, c', hi', hc', rfl⟩ : ∃ i c', i < hi - lo ∧ c' < 3 ∧ j = i * 3 + c' := ⟨j / 3, j % 3, by omega, by omega, by omega⟩
    rw [rcs_get _ i (by omega) c' hc'] at hj
    have e : ((Z.take hi).drop lo)[i]'(by omega) = Z[lo + i]'(by omega) := by rw [List.getElem_drop, List.getElem_take]
    rw [e] at hj
    rw [← rcs_get Z (lo + i) (by omega) c' hc'] at hj
    rw [Addr.add_lit]
    have := World.ownsRow.cellAt h.lo ((lo + i) * 3 + c') (by
      rcases h.lo.2 with ⟨q, _⟩ | ⟨g', cc, cur, q, _, _, q4, _, q6, q7⟩
      · cases q
      · have h3 := (List.getElem?_eq_some_iff.1 hj).1
        rw [rcs_len] at h3
        have := h.lo.1
        omega)
    rw [show lo * 3 + (i * 3 + c') = (lo + i) * 3 + c' by omega, this]
    exact hj
/-- The disk has another row of files, of those that it had. -/
theorem RZ.newrow {w : World} {r N : Nat} {F : Nat → Prop} {s : RSt} {Lv v4 : Value} {Z Z' : List RE} (h : RZ w r F N s Lv Z) (ho : w.ownsRow 0 79 3 v4 Z'.length (rcs Z')) (hs : Z'.Sublist Z) : RZ (w.setCell ⟨r, 0, none⟩ v4) r (fun j => F j ∨ v4.ownBlock = some j) N { s with fs := Z'.map RE.fl } v4 Z' := by
  have hne : ∀ j, j ≠ r → (w.setCell ⟨r, 0, none⟩ v4).heap[j]? = w.heap[j]? := fun j hj => Below.heap_setCell _ _ _ _ hj
  have hlr : ∀ b, v4.ownBlock = some b → b ≠ r := fun b hk q => by
    subst q
    have q1 := h.b
    rcases ho.2 with ⟨q, _⟩ | ⟨g', c', cur, q, q2, q3, _⟩
    · rw [q] at hk; cases hk
    · rw [q] at hk
      injection hk with hk
      have hb' : g' = b := hk
      rw [hb'] at q3
      unfold BxA at q1
      rw [q3] at q1
      simp at q1
  have her : ∀ x ∈ Z, ∀ b, x.v.ownBlock = some b → b ≠ r := fun x hx b hk q => by
    subst q
    have q1 := h.b
    rcases (h.e x hx).1.2 with ⟨q', _⟩ | ⟨g2, c2, cur2, q', _, q4, _⟩
    · rw [q'] at hk; cases hk
    · rw [q'] at hk
      injection hk with hk
      have hb' : g2 = b := hk
      rw [hb'] at q4
      unfold BxA at q1
      rw [q4] at q1
      simp at q1
  exact ⟨BxA.set h.b 0 v4, .inl h.f, rowk_block ho fun b q => hne b (hlr b q), fun b q => .inr q, fun x hx => ⟨owns_block (h.e x (hs.mem hx)).1 fun b q => hne b (her x (hs.mem hx) b q), fun b q => .inl ((h.e x (hs.mem hx)).2.1 b q), (h.e x (hs.mem hx)).2.2⟩, h.ap.sublist hs, rfl, fun x hx => h.nb x (hs.mem hx), Nat.le_trans hs.length_le h.few, h.nn, fun j hj => by
    rcases hj with hj | hj
    · have := h.lt j hj; simpa using this
    · have := (own_lt ho j hj).2; simpa using this⟩
set_option maxRecDepth 100000 in
set_option maxHeartbeats 3200000 in
theorem refout_any (w : World) (r N g cap n i : Nat) (F : Nat → Prop) (s : RSt) (t : Str) (Z : List RE) (hz : RZ w r F N s (.slice (some ⟨g, 0, none⟩) n cap) Z) (hn : n = Z.length) (hi : i < Z.length) (hf : fI s.fs t = (i : Int)) :
    Calls Try.prog 87 #[.pointer (some ⟨r, 0, none⟩), .string ⟨t.toArray⟩] w fun e w' => e = .returned (.agg #[.string ⟨Z[i].nm.toArray⟩, Z[i].v, .int .i64 (Z[i].sy : Int)]) ∧ ∃ Lv, RZ w' r (fun j => F j ∨ Lv.ownBlock = some j) N { s with fs := s.fs.eraseIdx i } Lv (Z.eraseIdx i) ∧ Owns w' 0 Z[i].v Z[i].bs ∧ (∀ j, Lv.ownBlock = some j → w.heap.size ≤ j) ∧ Fr (fun j => j = r) w w' := by
  obtain ⟨i0, hi0, hz0, hz1, hz2⟩ := info_parts Try.info_file
  have HZ : Hid (RZ w r F N s (.slice (some ⟨g, 0, none⟩) n cap) Z) := hz
  have HN : Hid (n = Z.length) := hn
  have HI : Hid (i < Z.length) := hi
  obtain ⟨a', c', hLe, hc1, hc2, hcs⟩ := hz.cells
  simp only [Value.slice.injEq] at hLe
  obtain ⟨rfl, -, rfl⟩ := hLe
  obtain ⟨g', hge, hx⟩ := hcs (by omega)
  simp only [Option.some.injEq, Addr.mk.injEq, and_true] at hge
  subst hge
  obtain ⟨x0, x1, x2, -⟩ := hx i hi
  have b0 : w.cell? ⟨r, 0, none⟩ = some (.slice (some ⟨g, 0, none⟩) n cap) := BxA.cell hz.b 0 _ rfl
  have hfew := hz.few
  rw [← hn] at hc1 hfew
  have hin : i < n := by omega
  have q1 := (hz.e _ (List.getElem_mem hi)).1
  obtain ⟨e, he⟩ : ∃ e, e = Z[i]'hi := ⟨_, rfl⟩
  rw [← he] at x0 x1 x2 q1
  have HEZ : Hid (e = Z[i]'hi) := he
  obtain ⟨enm, ev, ebs, esy⟩ := e
  simp only at x0 x1 x2 q1
  obtain ⟨va, vc, rfl⟩ : ∃ a c, ev = .slice a ebs.length c := by obtain ⟨a, c, e, _⟩ := q1.reads; exact ⟨_, _, e⟩
  have hiz : (i : Int) < (n : Int) := by omega
  have hi0z : (0 : Int) ≤ (i : Int) := by omega
  unfold maxLen at hc2
  have HXX : Hid (∀ w', RowKit.Below w.heap.size w w' → w'.cell? ⟨r, 0, none⟩ = some (.slice (some ⟨g, 0, none⟩) n cap) ∧ w'.cell? ⟨g, i * 3, none⟩ = some (.string ⟨enm.toArray⟩) ∧ w'.cell? ⟨g, i * 3 + 1, none⟩ = some (.slice va ebs.length vc) ∧ w'.cell? ⟨g, i * 3 + 2, none⟩ = some (.int .i64 (esy : Int))) := fun w' hb => ⟨by rw [hb.cell (World.block_lt_of_cell? _ _ b0), b0], by rw [hb.cell (World.block_lt_of_cell? _ _ x0), x0], by rw [hb.cell (World.block_lt_of_cell? _ _ x1), x1], by rw [hb.cell (World.block_lt_of_cell? _ _ x2), x2]⟩
  clear hcs hx hn he
  obtain ⟨W1, hW1⟩ : ∃ W, W = w.alloc (.cells #[.string ⟨#[]⟩, .slice none 0 0, .int .i64 0] 79) := ⟨_, rfl⟩
  have B1 : RowKit.Below w.heap.size w W1 := by rw [hW1]; exact (RowKit.Below.refl _ _).alloc (Nat.le_refl _) _
  have kF := reffind_any W1 r N F s t (Rd.below ⟨_, Z, HZ.out⟩ B1)
  rw [hf] at kF
  have HB1 : Hid (RowKit.Below w.heap.size w W1) := B1
  obtain ⟨y0, y1, y2, y3⟩ := HXX.out W1 B1
  clear b0 x0 x1 x2 q1 hf B1
  go_enter Try.func87, Try.ntmps87
  go_wp2_with fail
  rw [← hW1]
  have HW1 : Hid (W1 = _) := hW1
  clear hW1
  refine kF.mono ?_
  rintro e W1' ⟨rfl, rfl⟩
  clear kF
  obtain ⟨W2, hW2⟩ : ∃ W, W = W1'.alloc (.cells #[.string ⟨enm.toArray⟩, .slice va ebs.length vc, .int .i64 (esy : Int)] 79) := ⟨_, rfl⟩
  have B2 : RowKit.Below W1'.heap.size W1' W2 := by rw [hW2]; exact (RowKit.Below.refl _ _).alloc (Nat.le_refl _) _
  have HB2 : Hid (RowKit.Below w.heap.size w W2) := HB1.out.trans (B2.mono HB1.out.size)
  have hz2 : RZ W2 r F N s (.slice (some ⟨g, 0, none⟩) n cap) Z := HZ.out.frame HB2.out.size fun j hj => HB2.out.block j (HZ.out.lt j hj)
  have HP1 : Hid (RdsK 3 W2 (.slice (some ⟨g, 0, none⟩) i cap) i (rcs (Z.take i))) := by
    have := hz2.piece HN.out 0 i cap (Nat.zero_le _) (by omega) (by omega) (by unfold maxLen; omega)
    rw [List.drop_zero, Nat.sub_zero, Nat.zero_mul] at this
    exact this
  have HP2 : Hid (∀ w', RowKit.Below W2.heap.size W2 w' → RdsK 3 w' (.slice (some ⟨g, (i + 1) * 3, none⟩) (n - (i + 1)) (cap - (i + 1))) (n - (i + 1)) (rcs (Z.drop (i + 1)))) := fun w' hb => by
    have := (hz2.piece HN.out (i + 1) n (cap - (i + 1)) (by omega) (by have := HN.out; omega) (by omega) (by unfold maxLen; omega)).below hb
    rwa [List.take_of_length_le (by have := HN.out; omega)] at this
  have H1C : Hid (∀ u ∈ rcs (Z.take i), u.oneCell' = true) := rcs_one _ fun x hx => own_one (HZ.out.e x (List.mem_of_mem_take hx)).1
  have H2C : Hid (∀ u ∈ rcs (Z.drop (i + 1)), u.oneCell' = true) := rcs_one _ fun x hx => own_one (HZ.out.e x (List.mem_of_mem_drop hx)).1
  have HBX4 : Hid (BxA W2 w.heap.size 79 #[.string ⟨#[]⟩, .slice none 0 0, .int .i64 0] ∧ w.heap.size < W1'.heap.size) := by
    have h0 : BxA W1' w.heap.size 79 #[.string ⟨#[]⟩, .slice none 0 0, .int .i64 0] := by rw [HW1.out]; exact BxA.new _ _ _
    refine ⟨?_, BxA.lt h0⟩
    have := h0
    unfold BxA at this ⊢
    rw [B2.block _ (BxA.lt h0)]
    exact this
  have HBX6 : Hid (BxA W2 W1'.heap.size 79 #[.string ⟨enm.toArray⟩, .slice va ebs.length vc, .int .i64 (esy : Int)]) := by apply hide; rw [hW2]; exact BxA.new _ _ _
  have HRF : Hid (r < w.heap.size) := HZ.out.lt r HZ.out.f
  have HQ1 : Hid (0 + i ≤ maxLen ∧ ((0 + i) + (0 + i) / 4 + 192) * 48 ≤ 281474976710656 ∧ i + (n - (i + 1)) ≤ maxLen ∧ ((i + (n - (i + 1))) + (i + (n - (i + 1))) / 4 + 192) * 48 ≤ 281474976710656) := by apply hide; unfold maxLen; omega
  obtain ⟨e0, e1, e2, e3⟩ := HXX.out W2 HB2.out
  have HW2 : Hid (W2 = _) := hW2
  clear B2 hz2 hW2
  by_cases hce : cap = i + 1
  · have hn1 : n = i + 1 := by omega
    subst hce
    subst hn1
    have HDZ : Hid (Z.drop (i + 1) = []) := by apply hide; exact List.drop_eq_nil_of_le (by have := HN.out; omega)
    have HQ0 : Hid (i + 0 ≤ maxLen ∧ ((i + 0) + (i + 0) / 4 + 192) * 48 ≤ 281474976710656) := by apply hide; unfold maxLen; omega
    go_upto_region 4 with (first | (refine wpList_storeN rfl 79 (.tmp 6) (.tmp 17) rfl W1' #[.string ⟨#[]⟩, .slice none 0 0, .int .i64 0] #[.string ⟨enm.toArray⟩, .slice va ebs.length vc, .int .i64 (esy : Int)] rfl rfl rfl (by kernel_rfl) rfl rfl ?_))
    rw [← HW2.out]
    clear y0 y1 y2 y3
    go_wp2_with (first | (at_builtin; refine wpList_appF rfl _ _ 36 rfl W2.heap.size 79 i0 _ 3 48 Try.underlying36 hi0 hz0 hz1 hz2 rfl (by decide) (.slice none 0 0) 0 [] rfl ⟨rfl, .inl ⟨rfl, rfl⟩⟩ (.slice (some ⟨g, 0, none⟩) i (i + 1)) i (rcs (Z.take i)) rfl HP1.out H1C.out HQ1.out.1 HQ1.out.2.1 (Nat.le_refl _) ?_; intro v3 w3 o3 g3 p3; rw [Nat.zero_add, List.nil_append] at o3; have HO3 : Hid (w3.ownsRow W2.heap.size 79 3 v3 i (rcs (Z.take i))) := o3; have HB3 : Hid (RowKit.Below W2.heap.size W2 w3) := ⟨g3.os, g3.tape, g3.output, g3.size, fun i hi => g3.block i hi (by intro q; cases q)⟩; have HV3 : Hid (∀ b, v3.ownBlock = some b → W2.heap.size ≤ b) := (fun b hb => (own_lt o3 b hb).1); obtain ⟨xa3, xc3, hx3⟩ := own_sl o3; subst hx3; clear o3 g3 p3; have HP3 : Hid _ := HP2.out w3 HB3.out; obtain ⟨d0, -, -, -⟩ := HXX.out w3 (HB2.out.trans (HB3.out.mono HB2.out.size)); have hs3 : W2.heap.size ≤ w3.heap.size := HB3.out.size) | (at_builtin; refine wpList_appF rfl _ _ 36 rfl W2.heap.size 79 i0 _ 3 48 Try.underlying36 hi0 hz0 hz1 hz2 rfl (by decide) (.slice xa3 i xc3) i (rcs (Z.take i)) rfl HO3.out (.slice (some ⟨g, 0, none⟩) 0 0) 0 [] rfl (rdsk_zero _ _) (fun _ h => by cases h) HQ0.out.1 HQ0.out.2 hs3 ?_; intro v4 w4 o4 g4 p4; rw [Nat.add_zero, List.append_nil] at o4; have HO4 : Hid (w4.ownsRow 0 79 3 v4 (Z.eraseIdx i).length (rcs (Z.eraseIdx i))) := (by apply hide; rw [List.eraseIdx_eq_take_drop_succ, HDZ.out, List.append_nil, List.length_take, Nat.min_eq_left (Nat.le_of_lt HI.out)]; exact ownk_mono o4); have HB24 : Hid (RowKit.Below W2.heap.size W2 w4) := HB3.out.trans ⟨g4.os, g4.tape, g4.output, g4.size, fun j hj => g4.block j (Nat.lt_of_lt_of_le hj HB3.out.size) (fun q => by have := HV3.out j q.symm; omega)⟩; have HV4 : Hid (∀ b, v4.ownBlock = some b → W2.heap.size ≤ b) := (fun b hb => (own_lt o4 b hb).1); obtain ⟨xa4, xc4, hx4⟩ := own_sl o4; subst hx4; clear o4 g4 p4; have HB4 : Hid (RowKit.Below w.heap.size w w4) := HB2.out.trans (HB24.out.mono HB2.out.size); have HZ4 : Hid (RZ w4 r F N s (.slice (some ⟨g, 0, none⟩) (i + 1) (i + 1)) Z) := HZ.out.frame HB4.out.size (fun j hj => HB4.out.block j (HZ.out.lt j hj)); have k0 : w4.cell? ⟨r, 0, none⟩ = some (.slice (some ⟨g, 0, none⟩) (i + 1) (i + 1)) := BxA.cell HZ4.out.b 0 _ rfl; have kf := BxA.free HZ4.out.b 0; have HX6 : Hid (BxA (w4.setCell ⟨r, 0, none⟩ (.slice xa4 i xc4)) W1'.heap.size 79 #[.string ⟨enm.toArray⟩, .slice va ebs.length vc, .int .i64 (esy : Int)]) := bx_keep HBX6.out HB24.out (fun q => by have := HRF.out; have := HBX4.out.2; omega); have HX4 : Hid (BxA (w4.setCell ⟨r, 0, none⟩ (.slice xa4 i xc4)) w.heap.size 79 #[.string ⟨#[]⟩, .slice none 0 0, .int .i64 0]) := bx_keep HBX4.out.1 HB24.out (fun q => by have := HRF.out; omega); have m0 := BxA.cell HX6.out 0 _ rfl; have m1 := BxA.cell HX6.out 1 _ rfl; have m2 := BxA.cell HX6.out 2 _ rfl; have n0 := BxA.cell HX4.out 0 _ rfl; have n1 := BxA.cell HX4.out 1 _ rfl; have n2 := BxA.cell HX4.out 2 _ rfl; have nf0 := BxA.free HX4.out 0; have nf1 := BxA.free HX4.out 1; have nf2 := BxA.free HX4.out 2))
    obtain ⟨X, hX⟩ : ∃ X, X = w4.setCell ⟨r, 0, none⟩ (.slice xa4 i xc4) := ⟨_, rfl⟩
    rw [← hX] at HX4
    have HXW : Hid (X = w4.setCell ⟨r, 0, none⟩ (.slice xa4 i xc4)) := hX
    rw [← hX]
    clear hX m0 m1 m2 n0 n1 n2 nf0 nf1 nf2 k0 kf
    obtain ⟨Y, hY⟩ : ∃ Y, Y = ((X.setCell ⟨w.heap.size, 0, none⟩ (.string ⟨enm.toArray⟩)).setCell ⟨w.heap.size, 1, none⟩ (.slice va ebs.length vc)).setCell ⟨w.heap.size, 2, none⟩ (.int .i64 (esy : Int)) := ⟨_, rfl⟩
    have hbY : BxA Y w.heap.size 79 #[.string ⟨enm.toArray⟩, .slice va ebs.length vc, .int .i64 (esy : Int)] := by
      rw [hY]
      exact BxA.set (BxA.set (BxA.set HX4.out 0 (.string ⟨enm.toArray⟩)) 1 (.slice va ebs.length vc)) 2 (.int .i64 (esy : Int))
    have hfY : Fr (fun j => j = w.heap.size) X Y := by
      rw [hY]
      exact ((Fr.of_grown grown_setCell fun j hj => .inl (by cases hj; rfl)).trans (Fr.of_grown (F := fun j => j = w.heap.size) grown_setCell fun j hj => .inl (by cases hj; rfl)) fun _ _ h => h).trans (Fr.of_grown (F := fun j => j = w.heap.size) grown_setCell fun j hj => .inl (by cases hj; rfl)) fun _ _ h => h
    have z0 : Y.cell? ⟨w.heap.size, 0, none⟩ = some (.string ⟨enm.toArray⟩) := BxA.cell hbY 0 _ rfl
    have z1 : Y.cell? ⟨w.heap.size, 1, none⟩ = some (.slice va ebs.length vc) := BxA.cell hbY 1 _ rfl
    have z2 : Y.cell? ⟨w.heap.size, 2, none⟩ = some (.int .i64 (esy : Int)) := BxA.cell hbY 2 _ rfl
    rw [← hY]
    have HFY : Hid (Fr (fun j => j = w.heap.size) X Y) := hfY
    clear hY hbY hfY
    refine bodyPost_ret (by simp [results, Try.results87, go_sem, z0, z1, z2]; try rfl) rfl ?_
    rw [← HEZ.out]
    have hR := HZ4.out.newrow (v4 := .slice xa4 i xc4) (Z' := Z.eraseIdx i) HO4.out (List.eraseIdx_sublist ..)
    rw [← HXW.out] at hR
    have hfs : (Z.eraseIdx i).map RE.fl = s.fs.eraseIdx i := by
      rw [← HZ4.out.fs, List.eraseIdx_eq_take_drop_succ, List.eraseIdx_eq_take_drop_succ, List.map_append, List.map_take, List.map_drop]
    rw [hfs] at hR
    have hs4 := HB4.out.size
    have hs2 := HB2.out.size
    have hw2 : w.heap.size < W2.heap.size := BxA.lt HBX4.out.1
    have hno : ∀ j, (F j ∨ Value.ownBlock (.slice xa4 i xc4) = some j) → ¬ j = w.heap.size := fun j hj q => by
      subst q
      rcases hj with hj | hj
      · have := HZ.out.lt _ hj; omega
      · have := HV4.out _ hj; omega
    have hRY := hR.frame HFY.out.size fun j hj => HFY.out.block j (hR.lt j hj) (hno j hj)
    have fX : Fr (fun j => j = r) w X := by
      rw [HXW.out]
      exact (Fr.of_below HB4.out).trans (Fr.of_grown (F := fun j => j = r) grown_setCell fun j hj => .inl (by cases hj; rfl)) fun _ _ h => h
    refine ⟨rfl, _, hRY, ?_, fun j hj => Nat.le_trans hs2 (HV4.out j hj), fX.trans HFY.out fun j hj q => by omega⟩
    have hmem := List.getElem_mem HI.out
    have q1 := (HZ4.out.e _ hmem).1
    rw [← HEZ.out] at q1
    have q2 := (HZ.out.e _ hmem).2.1
    rw [← HEZ.out] at q2
    simp only at q1 q2
    refine owns_block q1 fun b hb => ?_
    have hbF := q2 b hb
    have hbr : b ≠ r := fun q => by
      subst q
      have q5 := HZ4.out.b
      rcases q1.2 with ⟨q', _⟩ | ⟨g2, c2, cur2, q', _, q4, _⟩
      · rw [q'] at hb; cases hb
      · rw [q'] at hb
        injection hb with hb
        have hb' : g2 = b := hb
        rw [hb'] at q4
        unfold BxA at q5
        rw [q4] at q5
        simp at q5
    have hbX : X.heap[b]? = w4.heap[b]? := by rw [HXW.out]; exact Below.heap_setCell _ _ _ _ hbr
    have hlt := HZ4.out.lt b hbF
    rw [HFY.out.block b (by rw [HXW.out]; simpa using hlt) (fun q => by have := HZ.out.lt b hbF; omega), hbX]
  · have hce2 : ¬ (cap : Int) = (i : Int) + 1 := by omega
    go_upto_region 4 with (first | (refine wpList_storeN rfl 79 (.tmp 6) (.tmp 17) rfl W1' #[.string ⟨#[]⟩, .slice none 0 0, .int .i64 0] #[.string ⟨enm.toArray⟩, .slice va ebs.length vc, .int .i64 (esy : Int)] rfl rfl rfl (by kernel_rfl) rfl rfl ?_))
    rw [← HW2.out]
    clear y0 y1 y2 y3
    go_wp2_with (first | (at_builtin; refine wpList_appF rfl _ _ 36 rfl W2.heap.size 79 i0 _ 3 48 Try.underlying36 hi0 hz0 hz1 hz2 rfl (by decide) (.slice none 0 0) 0 [] rfl ⟨rfl, .inl ⟨rfl, rfl⟩⟩ (.slice (some ⟨g, 0, none⟩) i cap) i (rcs (Z.take i)) rfl HP1.out H1C.out HQ1.out.1 HQ1.out.2.1 (Nat.le_refl _) ?_; intro v3 w3 o3 g3 p3; rw [Nat.zero_add, List.nil_append] at o3; have HO3 : Hid (w3.ownsRow W2.heap.size 79 3 v3 i (rcs (Z.take i))) := o3; have HB3 : Hid (RowKit.Below W2.heap.size W2 w3) := ⟨g3.os, g3.tape, g3.output, g3.size, fun i hi => g3.block i hi (by intro q; cases q)⟩; have HV3 : Hid (∀ b, v3.ownBlock = some b → W2.heap.size ≤ b) := (fun b hb => (own_lt o3 b hb).1); obtain ⟨xa3, xc3, hx3⟩ := own_sl o3; subst hx3; clear o3 g3 p3; have HP3 : Hid _ := HP2.out w3 HB3.out; obtain ⟨d0, -, -, -⟩ := HXX.out w3 (HB2.out.trans (HB3.out.mono HB2.out.size)); have hs3 : W2.heap.size ≤ w3.heap.size := HB3.out.size) | (at_builtin; refine wpList_appF rfl _ _ 36 rfl W2.heap.size 79 i0 _ 3 48 Try.underlying36 hi0 hz0 hz1 hz2 rfl (by decide) (.slice xa3 i xc3) i (rcs (Z.take i)) rfl HO3.out (.slice (some ⟨g, (i + 1) * 3, none⟩) (n - (i + 1)) (cap - (i + 1))) (n - (i + 1)) (rcs (Z.drop (i + 1))) rfl HP3.out H2C.out HQ1.out.2.2.1 HQ1.out.2.2.2 hs3 ?_; intro v4 w4 o4 g4 p4; have HO4 : Hid (w4.ownsRow 0 79 3 v4 (Z.eraseIdx i).length (rcs (Z.eraseIdx i))) := (by apply hide; rw [List.eraseIdx_eq_take_drop_succ, rcs_append, List.length_append, List.length_take, List.length_drop, Nat.min_eq_left (Nat.le_of_lt HI.out), ← HN.out]; exact ownk_mono o4); have HB24 : Hid (RowKit.Below W2.heap.size W2 w4) := HB3.out.trans ⟨g4.os, g4.tape, g4.output, g4.size, fun j hj => g4.block j (Nat.lt_of_lt_of_le hj HB3.out.size) (fun q => by have := HV3.out j q.symm; omega)⟩; have HV4 : Hid (∀ b, v4.ownBlock = some b → W2.heap.size ≤ b) := (fun b hb => (own_lt o4 b hb).1); obtain ⟨xa4, xc4, hx4⟩ := own_sl o4; subst hx4; clear o4 g4 p4; have HB4 : Hid (RowKit.Below w.heap.size w w4) := HB2.out.trans (HB24.out.mono HB2.out.size); have HZ4 : Hid (RZ w4 r F N s (.slice (some ⟨g, 0, none⟩) n cap) Z) := HZ.out.frame HB4.out.size (fun j hj => HB4.out.block j (HZ.out.lt j hj)); have k0 : w4.cell? ⟨r, 0, none⟩ = some (.slice (some ⟨g, 0, none⟩) n cap) := BxA.cell HZ4.out.b 0 _ rfl; have kf := BxA.free HZ4.out.b 0; have HX6 : Hid (BxA (w4.setCell ⟨r, 0, none⟩ (.slice xa4 (i + (n - (i + 1))) xc4)) W1'.heap.size 79 #[.string ⟨enm.toArray⟩, .slice va ebs.length vc, .int .i64 (esy : Int)]) := bx_keep HBX6.out HB24.out (fun q => by have := HRF.out; have := HBX4.out.2; omega); have HX4 : Hid (BxA (w4.setCell ⟨r, 0, none⟩ (.slice xa4 (i + (n - (i + 1))) xc4)) w.heap.size 79 #[.string ⟨#[]⟩, .slice none 0 0, .int .i64 0]) := bx_keep HBX4.out.1 HB24.out (fun q => by have := HRF.out; omega); have m0 := BxA.cell HX6.out 0 _ rfl; have m1 := BxA.cell HX6.out 1 _ rfl; have m2 := BxA.cell HX6.out 2 _ rfl; have n0 := BxA.cell HX4.out 0 _ rfl; have n1 := BxA.cell HX4.out 1 _ rfl; have n2 := BxA.cell HX4.out 2 _ rfl; have nf0 := BxA.free HX4.out 0; have nf1 := BxA.free HX4.out 1; have nf2 := BxA.free HX4.out 2))
    obtain ⟨X, hX⟩ : ∃ X, X = w4.setCell ⟨r, 0, none⟩ (.slice xa4 (i + (n - (i + 1))) xc4) := ⟨_, rfl⟩
    rw [← hX] at HX4
    have HXW : Hid (X = w4.setCell ⟨r, 0, none⟩ (.slice xa4 (i + (n - (i + 1))) xc4)) := hX
    rw [← hX]
    clear hX m0 m1 m2 n0 n1 n2 nf0 nf1 nf2 k0 kf
    obtain ⟨Y, hY⟩ : ∃ Y, Y = ((X.setCell ⟨w.heap.size, 0, none⟩ (.string ⟨enm.toArray⟩)).setCell ⟨w.heap.size, 1, none⟩ (.slice va ebs.length vc)).setCell ⟨w.heap.size, 2, none⟩ (.int .i64 (esy : Int)) := ⟨_, rfl⟩
    have hbY : BxA Y w.heap.size 79 #[.string ⟨enm.toArray⟩, .slice va ebs.length vc, .int .i64 (esy : Int)] := by
      rw [hY]
      exact BxA.set (BxA.set (BxA.set HX4.out 0 (.string ⟨enm.toArray⟩)) 1 (.slice va ebs.length vc)) 2 (.int .i64 (esy : Int))
    have hfY : Fr (fun j => j = w.heap.size) X Y := by
      rw [hY]
      exact ((Fr.of_grown grown_setCell fun j hj => .inl (by cases hj; rfl)).trans (Fr.of_grown (F := fun j => j = w.heap.size) grown_setCell fun j hj => .inl (by cases hj; rfl)) fun _ _ h => h).trans (Fr.of_grown (F := fun j => j = w.heap.size) grown_setCell fun j hj => .inl (by cases hj; rfl)) fun _ _ h => h
    have z0 : Y.cell? ⟨w.heap.size, 0, none⟩ = some (.string ⟨enm.toArray⟩) := BxA.cell hbY 0 _ rfl
    have z1 : Y.cell? ⟨w.heap.size, 1, none⟩ = some (.slice va ebs.length vc) := BxA.cell hbY 1 _ rfl
    have z2 : Y.cell? ⟨w.heap.size, 2, none⟩ = some (.int .i64 (esy : Int)) := BxA.cell hbY 2 _ rfl
    rw [← hY]
    have HFY : Hid (Fr (fun j => j = w.heap.size) X Y) := hfY
    clear hY hbY hfY
    refine bodyPost_ret (by simp [results, Try.results87, go_sem, z0, z1, z2]; try rfl) rfl ?_
    rw [← HEZ.out]
    have hR := HZ4.out.newrow (v4 := .slice xa4 (i + (n - (i + 1))) xc4) (Z' := Z.eraseIdx i) HO4.out (List.eraseIdx_sublist ..)
    rw [← HXW.out] at hR
    have hfs : (Z.eraseIdx i).map RE.fl = s.fs.eraseIdx i := by
      rw [← HZ4.out.fs, List.eraseIdx_eq_take_drop_succ, List.eraseIdx_eq_take_drop_succ, List.map_append, List.map_take, List.map_drop]
    rw [hfs] at hR
    have hs4 := HB4.out.size
    have hs2 := HB2.out.size
    have hw2 : w.heap.size < W2.heap.size := BxA.lt HBX4.out.1
    have hno : ∀ j, (F j ∨ Value.ownBlock (.slice xa4 (i + (n - (i + 1))) xc4) = some j) → ¬ j = w.heap.size := fun j hj q => by
      subst q
      rcases hj with hj | hj
      · have := HZ.out.lt _ hj; omega
      · have := HV4.out _ hj; omega
    have hRY := hR.frame HFY.out.size fun j hj => HFY.out.block j (hR.lt j hj) (hno j hj)
    have fX : Fr (fun j => j = r) w X := by
      rw [HXW.out]
      exact (Fr.of_below HB4.out).trans (Fr.of_grown (F := fun j => j = r) grown_setCell fun j hj => .inl (by cases hj; rfl)) fun _ _ h => h
    refine ⟨rfl, _, hRY, ?_, fun j hj => Nat.le_trans hs2 (HV4.out j hj), fX.trans HFY.out fun j hj q => by omega⟩
    have hmem := List.getElem_mem HI.out
    have q1 := (HZ4.out.e _ hmem).1
    rw [← HEZ.out] at q1
    have q2 := (HZ.out.e _ hmem).2.1
    rw [← HEZ.out] at q2
    simp only at q1 q2
    refine owns_block q1 fun b hb => ?_
    have hbF := q2 b hb
    have hbr : b ≠ r := fun q => by
      subst q
      have q5 := HZ4.out.b
      rcases q1.2 with ⟨q', _⟩ | ⟨g2, c2, cur2, q', _, q4, _⟩
      · rw [q'] at hb; cases hb
      · rw [q'] at hb
        injection hb with hb
        have hb' : g2 = b := hb
        rw [hb'] at q4
        unfold BxA at q5
        rw [q4] at q5
        simp at q5
    have hbX : X.heap[b]? = w4.heap[b]? := by rw [HXW.out]; exact Below.heap_setCell _ _ _ _ hbr
    have hlt := HZ4.out.lt b hbF
    rw [HFY.out.block b (by rw [HXW.out]; simpa using hlt) (fun q => by have := HZ.out.lt b hbF; omega), hbX]
end Go.Proofs.Ythegdhbmfojdaaa
