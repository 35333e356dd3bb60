/- The library's BinarySearch, Insert, Delete at rows of int of one's own: contracts, whole. -/
import Derived.Test.YtgbmigfamefenaaIsI
import Derived.Lib.OwnBridge
namespace Go.Proofs.Ytgbmigfamefenaa
open Go.Shelf Go.RowKit Go.Maps Go.Sort
set_option linter.unusedVariables false

/-- A row behind a call that writes it: it lies in its own block, or in a new one. -/
structure RNew (w w' : World) (v v' : Value) (l : List Int) : Prop where
  own : OwI w' v' l
  blk : ∀ r, v'.ownBlock = some r → v.ownBlock = some r ∨ w.heap.size ≤ r
  grown : w.grownBy w' v.ownBlock
theorem grown_drew (w : World) (r : Option Nat) : w.grownBy w.drew r := ⟨rfl, rfl, rfl, Nat.le_refl _, fun _ _ _ => rfl⟩
theorem zc1 (m : Nat) : (Builtin.zeroCells (Value.int .i64 0).cells m).size = m := by
  simp [Builtin.zeroCells, Value.cells]
/-- A row in a new block. -/
theorem RI.new (W : World) (l : List Int) (Z : Array Value) (n G : Nat) (hn : l.length = n) (hz : n + Z.size = G) (hG : G ≤ maxLen) : RI (W.alloc (.cells ((iv l).toArray ++ Z) 3)) (.slice (some ⟨W.heap.size, 0, none⟩) n G) l W.heap.size G (iv l ++ Z.toList) := by
  refine ⟨by rw [hn], ?_, by omega, hG, by simp [iv_length]; omega, ?_⟩
  · have := BxA.new W 3 ((iv l).toArray ++ Z)
    unfold BxA at this
    rw [this]
    congr 2
    simp
  · rw [List.take_append_of_le_length (by rw [iv_length]; omega), List.take_of_length_le (by rw [iv_length]; omega)]
theorem vs_at {w : World} {vb : Nat} {x : Int} (hvb : BxA w vb 3 #[.int .i64 x]) : ∀ j v, ([Value.int .i64 x] : List Value)[j]? = some v → w.cell? ⟨vb, 0 + j, none⟩ = some v := by
  intro j v hj
  cases j with
  | zero => simp at hj; subst hj; exact hvb.cell 0 _ rfl
  | succ j => simp at hj
theorem vs_one (x : Int) : ∀ v ∈ ([Value.int .i64 x] : List Value), v.oneCell' = true := by
  intro v hv
  simp at hv
  subst hv
  rfl
theorem iv_app (l m : List Int) : iv (l ++ m) = iv l ++ iv m := by simp [iv]
theorem iv_take (l : List Int) (i : Nat) : iv (l.take i) = (iv l).take i := by simp [iv]
theorem iv_drop (l : List Int) (i : Nat) : iv (l.drop i) = (iv l).drop i := by simp [iv]
theorem ins_end_nil (w : World) (x : Int) (vb : Nat) (hvb : BxA w vb 3 #[.int .i64 x]) :
    Calls Try.prog 32 #[.slice none 0 0, .int .i64 0, .slice (some ⟨vb, 0, none⟩) 1 1] w fun e w' => ∃ v', e = .returned v' ∧ RNew w w' (.slice none 0 0) v' [x] := by
  have k := Any2.slices_Insert_int_end_grow insL none 0 0 vb 0 1 1 [] [.int .i64 x] w (by omega) (by omega) (by omega) (by omega) rfl rfl (fun _ => rfl) (fun a q => by cases q) (vs_at hvb) (vs_one x)
  change Calls Try.prog 32 _ _ _ at k
  refine k.mono ?_
  rintro e w' ⟨rfl, rfl⟩
  have hge := grownCap_ge w 1 0 3
  have hle := grownCap_le_maxLen w 1 0 3 (by unfold maxLen; omega)
  refine ⟨_, rfl, ⟨?_, fun r hr => .inr ?_, ?_⟩⟩
  · have := RI.new w.drew [x] (Builtin.zeroCells (Value.int .i64 0).cells (grownCap w 1 0 3 - 1)) 1 (grownCap w 1 0 3) rfl (by rw [zc1]; omega) hle
    exact this.own
  · simp only [Value.ownBlock, Option.some.injEq] at hr
    omega
  · exact grown_trans (grown_drew w _) (grown_alloc _ _ _)
theorem ins_int_at (w : World) (v : Value) (l : List Int) (g cap : Nat) (cur : List Value) (i : Nat) (x : Int) (vb : Nat) (h : RI w v l g cap cur) (hi : i ≤ l.length) (hvb : BxA w vb 3 #[.int .i64 x]) (hne : vb ≠ g) (hlen : l.length ≤ 100000) :
    Calls Try.prog 32 #[v, .int .i64 (i : Int), .slice (some ⟨vb, 0, none⟩) 1 1] w fun e w' => ∃ v', e = .returned v' ∧ RNew w w' v v' (l.take i ++ x :: l.drop i) := by
  obtain ⟨n, hn⟩ : ∃ n, n = l.length := ⟨_, rfl⟩
  have hv := h.v
  subst hv
  have hle := h.le
  have hbig := h.big
  unfold maxLen at hbig
  have hcl : (iv l).length = n := by rw [iv_length, hn]
  have hcs : ∀ j v, (iv l)[j]? = some v → w.cell? ⟨g, 0 + j, none⟩ = some v := fun j v hj => by rw [Nat.zero_add]; exact h.at j v hj
  by_cases hroom : l.length + 1 ≤ cap
  · -- there is room
    have hsp : ∀ j, j < n + 1 → (w.cell? ⟨g, 0 + j, none⟩).isSome = true := fun j hj => by rw [Nat.zero_add]; exact h.has j (by omega)
    have hfz : ∀ j, j < n + 1 → w.frozen? ⟨g, 0 + j, none⟩ = false := fun j hj => h.fz _
    have hres : ∀ W : World, W.heap[g]? = some (.cells ((iv (l.take i) ++ (.int .i64 x :: iv (l.drop i)) ++ cur.drop (n + 1)).toArray) 3 (0, 0)) → OwI W (.slice (some ⟨g, 0, none⟩) (n + 1) cap) (l.take i ++ x :: l.drop i) := fun W hW => by
      have hll : (l.take i ++ x :: l.drop i).length = n + 1 := by simp only [List.length_append, List.length_take, List.length_cons, List.length_drop]; omega
      have e1 : iv (l.take i ++ x :: l.drop i) = iv (l.take i) ++ (.int .i64 x :: iv (l.drop i)) := by rw [iv_app]; rfl
      have : RI W (.slice (some ⟨g, 0, none⟩) (n + 1) cap) (l.take i ++ x :: l.drop i) g cap (iv (l.take i) ++ (.int .i64 x :: iv (l.drop i)) ++ cur.drop (n + 1)) := by
        refine ⟨by rw [hll], hW, by rw [hll]; omega, h.big, ?_, ?_⟩
        · have := h.fit
          rw [← e1, List.length_append, iv_length, hll, List.length_drop]; omega
        · rw [← e1, hll, List.take_append_of_le_length (by rw [iv_length, hll]; exact Nat.le_refl _), List.take_of_length_le (by rw [iv_length, hll]; exact Nat.le_refl _)]
      exact this.own
    by_cases hend : i = l.length
    · subst hend
      have k := Any2.slices_Insert_int_end_room insL g 0 n cap vb 0 1 1 [.int .i64 x] w (by omega) (by omega) (by omega) rfl (fun j hj => by rw [Nat.zero_add]; exact h.has _ (by omega)) (fun j hj => h.fz _) (vs_at hvb) (vs_one x)
      change Calls Try.prog 32 _ _ _ at k
      rw [← hn]
      refine k.mono ?_
      rintro e w' ⟨rfl, rfl⟩
      refine ⟨_, rfl, ⟨?_, fun r hr => .inl hr, grown_setCells _ _ _ _⟩⟩
      rw [hn]
      rw [hn] at hres
      refine hres _ ?_
      rw [Nat.zero_add, setCells_row h.blk _ _ (by rw [h.fit]; simp; omega)]
      congr 3
      rw [h.is, List.take_of_length_le (Nat.le_refl _), List.drop_of_length_le (Nat.le_refl _)]
      simp [iv]
    · have hsb : w.shape? g = some (3, cur.length) := by unfold World.shape?; rw [h.blk]; simp
      have hsa : w.shape? vb = some (3, 1) := by unfold World.shape?; rw [hvb]; rfl
      have k := Any2.slices_Insert_int_shift insL g 0 n cap i vb 0 1 1 (iv l) [.int .i64 x] w (by omega) (by omega) (by omega) (by omega) hne hcl rfl hcs hsp hfz (vs_at hvb) (iv_one l) (vs_one x) 3 3 1 cur.length hsa hsb (by rw [h.fit]; omega) (hvb.free _) (hvb.free _)
      change Calls Try.prog 32 _ _ _ at k
      rw [← hn]
      refine k.mono ?_
      rintro e w' ⟨rfl, rfl⟩
      refine ⟨_, rfl, ⟨?_, fun r hr => .inl hr, ?_⟩⟩
      · refine hres _ ?_
        have hd : w.drew.heap[g]? = some (.cells cur.toArray 3 (0, 0)) := h.blk
        have hdl : ((iv l).drop i).length = n - i := by rw [List.length_drop, hcl]
        have h1 := setCells_row hd ((iv l).drop i) (0 + (i + 1)) (by rw [h.fit, hdl]; omega)
        rw [setCells_row h1 _ _ (by simp only [List.length_append, List.length_take, List.length_drop, List.length_cons, List.length_nil, h.fit, hcl]; omega)]
        congr 3
        have hX : (cur.take (0 + (i + 1)) ++ (iv l).drop i ++ cur.drop (0 + (i + 1) + ((iv l).drop i).length)).take (0 + i) = iv (l.take i) := by
          rw [List.append_assoc, List.take_append_of_le_length (by rw [List.length_take, h.fit]; omega), List.take_take, iv_take, ← h.is, List.take_take]
          congr 1
          omega
        have hY : (cur.take (0 + (i + 1)) ++ (iv l).drop i ++ cur.drop (0 + (i + 1) + ((iv l).drop i).length)).drop (0 + i + ([Value.int .i64 x] : List Value).length) = iv (l.drop i) ++ cur.drop (n + 1) := by
          rw [List.append_assoc, List.drop_append, List.drop_of_length_le (by rw [List.length_take, h.fit]; simp; omega), List.nil_append, List.length_take, h.fit, Nat.min_eq_left (by omega)]
          simp only [List.length_cons, List.length_nil]
          rw [show 0 + i + (0 + 1) - (0 + (i + 1)) = 0 by omega, List.drop_zero, iv_drop, hdl, show 0 + (i + 1) + (n - i) = n + 1 by omega]
        rw [hX, hY]
        simp
      · exact grown_trans (grown_drew w _) (grown_trans (grown_setCells _ _ _ _) (grown_setCells _ _ _ _))
  · -- a new row
    have hgw := h.lt
    have hG1 := grownCap_ge w (n + 1) cap 3
    have hG2 := grownCap_le_maxLen w (n + 1) cap 3 (by unfold maxLen; omega)
    by_cases hend : i = l.length
    · subst hend
      have k := Any2.slices_Insert_int_end_grow insL (some ⟨g, 0, none⟩) n cap vb 0 1 1 (iv l) [.int .i64 x] w (by omega) (by omega) (by omega) (by omega) hcl rfl (fun q => by cases q) (fun a q j v hj => by cases q; rw [Addr.add_lit]; exact hcs j v hj) (vs_at hvb) (vs_one x)
      change Calls Try.prog 32 _ _ _ at k
      rw [← hn]
      refine k.mono ?_
      rintro e w' ⟨rfl, rfl⟩
      refine ⟨_, rfl, ⟨?_, fun r hr => .inr ?_, ?_⟩⟩
      · have := RI.new w.drew (l ++ [x]) (Builtin.zeroCells (Value.int .i64 0).cells (grownCap w (n + 1) cap 3 - (n + 1))) (n + 1) (grownCap w (n + 1) cap 3) (by simp; omega) (by rw [zc1]; omega) hG2
        have h2 := this.own
        rw [hn, List.take_of_length_le (Nat.le_refl _), List.drop_of_length_le (Nat.le_refl _), ← hn]
        rw [iv_app] at h2
        exact h2
      · simp only [Value.ownBlock, Option.some.injEq] at hr
        omega
      · exact grown_trans (grown_drew w _) (grown_alloc _ _ _)
    · have k := Any2.slices_Insert_int_grow insL g 0 n cap i vb 0 1 1 (iv l) [.int .i64 x] w (by omega) (by omega) (by omega) (by omega) (by omega) hcl rfl hcs (vs_at hvb) (iv_one l) (vs_one x)
      change Calls Try.prog 32 _ _ _ at k
      rw [← hn]
      refine k.mono ?_
      rintro e w' ⟨rfl, rfl⟩
      obtain ⟨G, hG⟩ : ∃ G, G = grownCap w (n + 1) cap 3 := ⟨_, rfl⟩
      rw [← hG] at hG1 hG2
      obtain ⟨Z1, hZ1⟩ : ∃ Z, Z = (Builtin.zeroCells (Value.int .i64 0).cells (n + 1 - i)).toList := ⟨_, rfl⟩
      obtain ⟨Z2, hZ2⟩ : ∃ Z, Z = (Builtin.zeroCells (Value.int .i64 0).cells (G - (n + 1))).toList := ⟨_, rfl⟩
      have hZ1l : Z1.length = n + 1 - i := by rw [hZ1, Array.length_toList, zc1]
      have hZ2l : Z2.length = G - (n + 1) := by rw [hZ2, Array.length_toList, zc1]
      have htl : ((iv l).take i).length = i := by rw [List.length_take, hcl]; omega
      have hdl : ((iv l).drop i).length = n - i := by rw [List.length_drop, hcl]
      refine ⟨_, rfl, ⟨?_, fun r hr => .inr ?_, ?_⟩⟩
      · have e0 : (((iv l).take i).toArray ++ Builtin.zeroCells (Value.int .i64 0).cells (n + 1 - i) ++ Builtin.zeroCells (Value.int .i64 0).cells (G - (n + 1))) = ((iv l).take i ++ Z1 ++ Z2).toArray := by rw [hZ1, hZ2]; simp
        have hll : (l.take i ++ x :: l.drop i).length = n + 1 := by simp only [List.length_append, List.length_take, List.length_cons, List.length_drop]; omega
        have e1 : iv (l.take i ++ x :: l.drop i) = iv (l.take i) ++ (.int .i64 x :: iv (l.drop i)) := by rw [iv_app]; rfl
        have b0 : ((w.alloc (.cells ((iv l).take i ++ Z1 ++ Z2).toArray 3)).drew).heap[w.heap.size]? = some (.cells ((iv l).take i ++ Z1 ++ Z2).toArray 3 (0, 0)) := BxA.new w _ _
        have b1 := setCells_row b0 [Value.int .i64 x] i (by simp only [List.length_append, htl, hZ1l, hZ2l, List.length_cons, List.length_nil]; omega)
        have b1' : ((World.setCells (w.alloc (.cells ((iv l).take i ++ Z1 ++ Z2).toArray 3)).drew w.heap.size i [Value.int .i64 x]).drew).heap[w.heap.size]? = _ := b1
        have b2 := setCells_row b1' ((iv l).drop i) (i + 1) (by simp only [List.length_append, List.length_take, List.length_drop, htl, hZ1l, hZ2l, hdl, List.length_cons, List.length_nil]; omega)
        have hX : (((iv l).take i ++ Z1 ++ Z2).take i ++ [Value.int .i64 x] ++ ((iv l).take i ++ Z1 ++ Z2).drop (i + ([Value.int .i64 x] : List Value).length)).take (i + 1) = iv (l.take i) ++ [.int .i64 x] := by
          have q : ((iv l).take i ++ Z1 ++ Z2).take i = (iv l).take i := by
            rw [List.append_assoc, List.take_append_of_le_length (by omega), List.take_of_length_le (by omega)]
          rw [q, List.take_append_of_le_length (by simp only [List.length_append, htl, List.length_cons, List.length_nil]; omega), List.take_of_length_le (by simp only [List.length_append, htl, List.length_cons, List.length_nil]; omega), iv_take]
        have hY : (((iv l).take i ++ Z1 ++ Z2).take i ++ [Value.int .i64 x] ++ ((iv l).take i ++ Z1 ++ Z2).drop (i + ([Value.int .i64 x] : List Value).length)).drop (i + 1 + ((iv l).drop i).length) = Z2 := by
          have q : ((iv l).take i ++ Z1 ++ Z2).take i = (iv l).take i := by
            rw [List.append_assoc, List.take_append_of_le_length (by omega), List.take_of_length_le (by omega)]
          have q2 : ((iv l).take i ++ Z1 ++ Z2).drop (i + ([Value.int .i64 x] : List Value).length) = Z1.drop 1 ++ Z2 := by
            rw [List.append_assoc, List.drop_append, List.drop_of_length_le (by rw [htl]; simp), List.nil_append, htl]
            simp only [List.length_cons, List.length_nil]
            rw [show i + (0 + 1) - i = 1 by omega, List.drop_append_of_le_length (by omega)]
          rw [q, q2, List.drop_append, List.drop_of_length_le (by simp only [List.length_append, htl, hdl, List.length_cons, List.length_nil]; omega), List.nil_append, List.length_append, htl, hdl]
          simp only [List.length_cons, List.length_nil]
          rw [show i + 1 + (n - i) - (i + (0 + 1)) = n - i by omega, List.drop_append, List.drop_of_length_le (by rw [List.length_drop]; omega), List.nil_append, List.length_drop, hZ1l, show n - i - (n + 1 - i - 1) = 0 by omega, List.drop_zero]
        rw [hX, hY] at b2
        have hfin : RI (World.setCells (World.setCells (w.alloc (.cells ((iv l).take i ++ Z1 ++ Z2).toArray 3)).drew w.heap.size i [Value.int .i64 x]).drew w.heap.size (i + 1) ((iv l).drop i)) (.slice (some ⟨w.heap.size, 0, none⟩) (n + 1) G) (l.take i ++ x :: l.drop i) w.heap.size G (iv (l.take i) ++ [.int .i64 x] ++ (iv l).drop i ++ Z2) := by
          refine ⟨by rw [hll], b2, by rw [hll]; exact hG1, hG2, ?_, ?_⟩
          · simp only [List.length_append, iv_length, List.length_take, hdl, hZ2l, List.length_cons, List.length_nil]; omega
          · have e2 : iv (l.take i) ++ [Value.int .i64 x] ++ (iv l).drop i = iv (l.take i ++ x :: l.drop i) := by rw [e1, iv_drop]; simp
            rw [e2, hll, List.take_append_of_le_length (by rw [iv_length, hll]; exact Nat.le_refl _), List.take_of_length_le (by rw [iv_length, hll]; exact Nat.le_refl _)]
        have := hfin.own
        rw [← e0, hG] at this
        exact this
      · simp only [Value.ownBlock, Option.some.injEq] at hr
        omega
      · have hgB : ∀ W : World, Below w.heap.size w W → ∀ o vs, Below w.heap.size w (World.setCells W w.heap.size o vs) := fun W hW o vs => by
          have q := grown_setCells W w.heap.size vs o
          exact ⟨q.os.trans hW.os, q.tape.trans hW.tape, q.output.trans hW.output, Nat.le_trans hW.size q.size, fun j hj => (q.block j (Nat.lt_of_lt_of_le hj hW.size) (by simp; omega)).trans (hW.block j hj)⟩
        refine grown_of_below ?_ _
        exact hgB _ (Below.drew (hgB _ (Below.drew ((Below.refl _ w).alloc (Nat.le_refl _) _)) _ _)) _ _
/-- Insert of one. -/
theorem ins_int (w : World) (v : Value) (l : List Int) (i : Nat) (x : Int) (vb : Nat) (h : OwI w v l) (hi : i ≤ l.length) (hvb : BxA w vb 3 #[.int .i64 x]) (hne : v.ownBlock ≠ some vb) (hlen : l.length ≤ 100000) :
    Calls Try.prog 32 #[v, .int .i64 (i : Int), .slice (some ⟨vb, 0, none⟩) 1 1] w fun e w' => ∃ v', e = .returned v' ∧ RNew w w' v v' (l.take i ++ x :: l.drop i) := by
  rcases h.cases with ⟨rfl, rfl⟩ | ⟨g, cap, cur, h1⟩
  · have : i = 0 := by simpa using hi
    subst this
    exact ins_end_nil w x vb hvb
  · refine ins_int_at w v l g cap cur i x vb h1 hi hvb (fun q => hne ?_) hlen
    rw [h1.v, q]
    rfl
/-- Delete of one. -/
theorem del_int (w : World) (v : Value) (l : List Int) (i : Nat) (h : OwI w v l) (hi : i < l.length) (hlen : l.length ≤ 100000) :
    Calls Try.prog 33 #[v, .int .i64 (i : Int), .int .i64 ((i : Int) + 1)] w fun e w' => ∃ v', e = .returned v' ∧ RNew w w' v v' (l.take i ++ l.drop (i + 1)) ∧ v'.ownBlock = v.ownBlock := by
  have hn : v ≠ .slice none 0 0 := fun q => by
    rcases h.cases with ⟨_, rfl⟩ | ⟨g, cap, cur, h1⟩
    · simp at hi
    · have := h1.v; rw [q] at this; cases this
  have h' : w.ownsRow 0 3 1 v l.length (l.map (Value.int .i64)) := h
  obtain ⟨g, cap, rfl, hbg, hgl, hncap, hcm, hl, hH⟩ := Lib.holds_of_ownsRow h' hn
  have k := Any.slices_Delete_int delL g 0 cap i (i + 1) l w hH hncap (by unfold maxLen at hcm; omega) (by omega) (by omega)
  change Calls Try.prog 33 _ _ _ at k
  rw [show ((i + 1 : Nat) : Int) = (i : Int) + 1 by omega, show l.length - (i + 1 - i) = l.length - 1 by omega, show i + 1 - i = 1 by omega] at k
  refine k.mono ?_
  rintro e w' ⟨rfl, q, rfl⟩
  have hy : (l.take i ++ l.drop (i + 1) ++ List.replicate 1 0).length = l.length := by simp only [List.length_append, List.length_take, List.length_drop, List.length_replicate]; omega
  have hll : (l.take i ++ l.drop (i + 1)).length = l.length - 1 := by simp only [List.length_append, List.length_take, List.length_drop]; omega
  have hc := Lib.ownsRow_putRow (q := q) (k := l.length - 1) h' hy (by omega)
  rw [← hll, List.take_left] at hc
  refine ⟨_, rfl, ⟨?_, fun r hr => .inl hr, ?_⟩, rfl⟩
  · rw [← hll]
    exact hc
  · exact ⟨rfl, rfl, rfl, by simp [putRow, mapBlock, Sort.ahead], fun j hj hne => by
      have hne' : g ≠ j := fun e => hne (by rw [e]; rfl)
      simp [putRow, mapBlock, Sort.ahead, Array.getElem?_modify, hne']⟩
/-- BinarySearch. -/
theorem bs_own (w : World) (v : Value) (l : List Int) (x : Int) (h : OwI w v l) (hlen : l.length ≤ 100000) (hs : l.Pairwise (· < ·)) :
    Calls Try.prog 31 #[v, .int .i64 x] w fun e w' => e = .returned (.tuple #[.int .i64 (l.countP (· < x) : Nat), .bool (l.contains x)]) ∧ Grows w w' := by
  rcases h.cases with ⟨rfl, rfl⟩ | ⟨g, cap, cur, h1⟩
  · have k := Any.slices_BinarySearch_int_empty bsL none 0 x w
    change Calls Try.prog 31 _ _ _ at k
    refine k.mono ?_
    rintro e w' ⟨rfl, rfl⟩
    exact ⟨rfl, Grows.refl _⟩
  · have hv := h1.v
    subst hv
    exact bs_some w g 0 l.length cap l x rfl hlen (fun j hj => by rw [Nat.zero_add]; exact h1.at j _ (iv_get l j hj)) (hs.imp fun q => by omega)
end Go.Proofs.Ytgbmigfamefenaa
