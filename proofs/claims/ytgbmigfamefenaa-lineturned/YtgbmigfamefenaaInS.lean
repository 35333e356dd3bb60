/- The contract of the library's Insert at rows of keys: in the middle, where there is room. -/
import Derived.Test.YtgbmigfamefenaaInK
namespace Go.Proofs.Ytgbmigfamefenaa
open Go.RowKit Go.Maps Go.Sort Go.Lib
set_option linter.unusedVariables false

theorem shift_cur (A X Y R K : List Value) (o x y : Nat) (hA : A.length = o) (hX : X.length = x) (hY : Y.length = y) (hK : K.length = 3) (hR : 3 ≤ R.length) (cur c1 : List Value) (hc : cur = A ++ (X ++ (Y ++ R))) (h1 : c1 = cur.take (o + (x + 3)) ++ Y ++ cur.drop (o + (x + 3) + y)) :
    c1.length = cur.length ∧ c1.take (o + x) ++ K ++ c1.drop (o + x + 3) = A ++ (X ++ (K ++ (Y ++ R.drop 3))) := by
  have hcl : cur.length = o + x + y + R.length := by rw [hc]; simp only [List.length_append]; omega
  have ht : (cur.take (o + (x + 3))).length = o + x + 3 := by rw [List.length_take]; omega
  have e1 : c1.take (o + x) = A ++ X := by
    rw [h1, List.append_assoc, List.take_append_of_le_length (by rw [ht]; omega), List.take_take, Nat.min_eq_left (by omega), hc]
    rw [← List.append_assoc, List.take_append_of_le_length (by rw [List.length_append]; omega), List.take_of_length_le (by rw [List.length_append]; omega)]
  have e2 : c1.drop (o + x + 3) = Y ++ R.drop 3 := by
    rw [h1, List.append_assoc, ← ht, List.drop_left]
    congr 1
    rw [hc, ← List.append_assoc, ← List.append_assoc, List.drop_append, List.drop_of_length_le (by simp only [List.length_append]; omega), List.nil_append]
    congr 1
    simp only [List.length_append]
    omega
  refine ⟨?_, ?_⟩
  · rw [h1, List.length_append, List.length_append, ht, List.length_drop]
    omega
  · rw [e1, e2, List.append_assoc, List.append_assoc]
theorem RoO.parts {w : World} {base : Nat} {v : Value} {l : List K3} {g o cap : Nat} {cur : List Value} (h : RoO w base v l g o cap cur) (i : Nat) (hi : i ≤ l.length) : cur = cur.take o ++ (kcs (l.take i) ++ (kcs (l.drop i) ++ cur.drop (o + l.length * 3))) ∧ (cur.take o).length = o ∧ (cur.drop (o + l.length * 3)).length = (cap - l.length) * 3 := by
  have hf := h.fit
  have hl := h.le
  refine ⟨?_, by rw [List.length_take]; omega, by rw [List.length_drop]; omega⟩
  have e1 : kcs (l.take i) ++ (kcs (l.drop i) ++ cur.drop (o + l.length * 3)) = kcs l ++ cur.drop (o + l.length * 3) := by
    rw [← List.append_assoc, ← kcs_append, List.take_append_drop]
  rw [e1, ← h.is, ← List.drop_drop, List.take_append_drop, List.take_append_drop]
theorem hov_key (w : World) (vb g lb cb off : Nat) (hne : vb ≠ g) (cs : Array Value) (cur : List Value) (h1 : BxA w vb 55 cs) (h2 : w.heap[g]? = some (.cells cur.toArray 55 (0, 0))) (hc : cur.length ≠ 0) :
    (callFunc 78 #[.slice (some ⟨vb, 0, none⟩) 1 1, .slice (some ⟨g, off, none⟩) lb cb]).run Try.prog w = .ok (.value (.bool false)) w := by
  have hsa : w.shape? vb = some (55, cs.size) := by unfold World.shape?; rw [h1]
  have hsb : w.shape? g = some (55, cur.length) := by unfold World.shape?; rw [h2]; simp
  rw [run_callFunc_extern Try.func78 (by kernel_rfl) (by kernel_rfl) (by kernel_rfl) (e := Extern.SlicesOverlaps.overlaps #[52, 52] #[4]) (by kernel_rfl),
    Lib.run_overlaps_apart w 52 4 55 Try.underlying52 3 size_key ⟨vb, 0, none⟩ ⟨g, off, none⟩ 1 1 lb cb hne _ _ _ _ hsa hsb hc (h1.free 0) (h1.free _)]
  rfl
set_option maxRecDepth 100000 in
set_option maxHeartbeats 4000000 in
theorem ins_shift (w : World) (base : Nat) (l : List K3) (g o cap i : Nat) (cur : List Value) (k : K3) (vb : Nat) (h : RoO w base (.slice (some ⟨g, o, none⟩) l.length cap) l g o cap cur) (hi : i < l.length) (hroom : l.length + 1 ≤ cap) (hvb : BxA w vb 55 #[.int .i64 k.1, .int .i64 k.2.1, .int .i64 k.2.2]) (hne : vb ≠ g) (hlen : l.length ≤ 100000) :
    Calls Try.prog 63 #[.slice (some ⟨g, o, none⟩) l.length cap, .int .i64 (i : Int), .slice (some ⟨vb, 0, none⟩) 1 1] w fun e w' => Ins w w' base (l.take i ++ k :: l.drop i) (some g) e := by
  have mixed : Try.prog.follows .mixedOrders = true := by kernel_rfl
  obtain ⟨i0, hi0, hi1, hi2, hi3⟩ := info_parts Try.info_key
  have hsz : (Try.prog.info? 55).map (·.size) = some 3 := by rw [hi0]; simp [hi2]
  obtain ⟨hpart, hA, hR⟩ := h.parts i (by omega)
  have hfit := h.fit
  have hbig := h.big
  unfold maxLen at hbig
  obtain ⟨n, hn⟩ : ∃ n, n = l.length := ⟨_, rfl⟩
  have hXl : (kcs (l.take i)).length = i * 3 := by rw [kcs_length, List.length_take, Nat.min_eq_left (by omega)]
  have hYl : (kcs (l.drop i)).length = (n - i) * 3 := by rw [kcs_length, List.length_drop, hn]
  obtain ⟨c1, hc1⟩ : ∃ c1, c1 = cur.take (o + (i * 3 + 3)) ++ kcs (l.drop i) ++ cur.drop (o + (i * 3 + 3) + (n - i) * 3) := ⟨_, rfl⟩
  obtain ⟨hc1l, hc2⟩ := shift_cur (cur.take o) (kcs (l.take i)) (kcs (l.drop i)) (cur.drop (o + l.length * 3)) (kc k) o (i * 3) ((n - i) * 3) hA hXl hYl rfl (by rw [hR]; omega) cur c1 hpart hc1
  have hov := fun lb cb => hov_key w vb g lb cb (o + (i + 1) * 3) hne _ cur hvb h.blk (by omega)
  have hcp1 : ∀ ty dc sc, (Builtin.copy_ #[52, 52] ty #[.slice (some ⟨g, o + (i + 1) * 3, none⟩) (n - i) dc, .slice (some ⟨g, o + i * 3, none⟩) (n + 1 - i) sc]).run Try.prog w.drew = .ok (goInt ((n - i : Nat) : Int)) (w.drew.setRow g c1.toArray) := fun ty dc sc => by
    have e0 : Nat.min (n + 1 - i) (n - i) = n - i := by simp only [Nat.min_def]; split <;> omega
    have := run_copyK (P := Try.prog) w.drew 52 52 ty 55 3 g (o + (i + 1) * 3) (n - i) dc ⟨g, o + i * 3, none⟩ (n + 1 - i) sc cur 55 (kcs (l.drop i)) Try.underlying52 hsz h.blk (by rw [e0, hYl])
      (fun j u hj => by
        rw [kcs_drop, List.getElem?_drop] at hj
        have := h.cell (i * 3 + j) u hj
        rw [Addr.add_lit, Nat.add_assoc]
        exact this)
      (by rw [hYl]; omega) (kcs_one _)
    rw [e0, hYl] at this
    have e1 : (i + 1) * 3 = i * 3 + 3 := by omega
    rw [e1, ← hc1] at this
    rw [e1]
    exact this
  obtain ⟨W1, hW1⟩ : ∃ W1, W1 = w.drew.setRow g c1.toArray := ⟨_, rfl⟩
  simp only [← hW1] at hcp1
  have hb1 : W1.heap[g]? = some (.cells c1.toArray 55 (0, 0)) := by rw [hW1]; exact setRow_heap w.drew _ _ _ _ _ h.blk
  have hvb1 : BxA W1 vb 55 #[.int .i64 k.1, .int .i64 k.2.1, .int .i64 k.2.2] := by
    unfold BxA
    rw [hW1, setRow_other _ _ _ _ hne]
    exact hvb
  have hcp2 : ∀ ty dc, (Builtin.copy_ #[52, 52] ty #[.slice (some ⟨g, o + i * 3, none⟩) (n + 1 - i) dc, .slice (some ⟨vb, 0, none⟩) 1 1]).run Try.prog W1 = .ok (goInt 1) (W1.setRow g (cur.take o ++ (kcs (l.take i) ++ (kc k ++ (kcs (l.drop i) ++ (cur.drop (o + l.length * 3)).drop 3)))).toArray) := fun ty dc => by
    have e0 : Nat.min 1 (n + 1 - i) = 1 := by simp only [Nat.min_def]; split <;> omega
    have := run_copyK (P := Try.prog) W1 52 52 ty 55 3 g (o + i * 3) (n + 1 - i) dc ⟨vb, 0, none⟩ 1 1 c1 55 (kc k) Try.underlying52 hsz hb1 (by rw [e0]; rfl) (cells_at hvb1) (by rw [hc1l]; have : (kc k).length = 3 := rfl; omega) (kc_one k)
    have e3 : (kc k).length = 3 := rfl
    rw [e0, e3, hc2] at this
    exact this
  obtain ⟨c2, hc2'⟩ : ∃ c2, c2 = cur.take o ++ (kcs (l.take i) ++ (kc k ++ (kcs (l.drop i) ++ (cur.drop (o + l.length * 3)).drop 3))) := ⟨_, rfl⟩
  rw [← hc2'] at hcp2
  obtain ⟨W2, hW2⟩ : ∃ W2, W2 = W1.setRow g c2.toArray := ⟨_, rfl⟩
  simp only [← hW2] at hcp2
  have HS : Hid (RoO W2 base (.slice (some ⟨g, o, none⟩) (n + 1) cap) (l.take i ++ k :: l.drop i) g o cap c2) := by
    apply hide
    have hll : (l.take i ++ k :: l.drop i).length = n + 1 := by simp only [List.length_append, List.length_take, List.length_cons, List.length_drop]; omega
    have e1 : kcs (l.take i ++ k :: l.drop i) = kcs (l.take i) ++ (kc k ++ kcs (l.drop i)) := by rw [kcs_append]; rfl
    refine ⟨by rw [hll], h.bg, by rw [hW2]; exact setRow_heap W1 _ _ _ _ _ hb1, by rw [hll]; omega, ?_, h.big, ?_⟩
    · rw [hc2']
      simp only [List.length_append, hA, hXl, hYl, List.length_drop]
      have e3 : (kc k).length = 3 := rfl
      rw [e3]
      omega
    · rw [hll, e1, hc2']
      have hd : (cur.take o ++ (kcs (l.take i) ++ (kc k ++ (kcs (l.drop i) ++ (cur.drop (o + l.length * 3)).drop 3)))).drop o = kcs (l.take i) ++ (kc k ++ (kcs (l.drop i) ++ (cur.drop (o + l.length * 3)).drop 3)) := by
        have := List.drop_left (l₁ := cur.take o) (l₂ := kcs (l.take i) ++ (kc k ++ (kcs (l.drop i) ++ (cur.drop (o + l.length * 3)).drop 3)))
        rw [hA] at this
        exact this
      rw [hd]
      have e2 : kcs (l.take i) ++ (kc k ++ (kcs (l.drop i) ++ (cur.drop (o + l.length * 3)).drop 3)) = (kcs (l.take i) ++ (kc k ++ kcs (l.drop i))) ++ (cur.drop (o + l.length * 3)).drop 3 := by simp only [List.append_assoc]
      rw [e2, List.take_append_of_le_length (by simp only [List.length_append, hXl, hYl]; have e3 : (kc k).length = 3 := rfl; omega), List.take_of_length_le (by simp only [List.length_append, hXl, hYl]; have e3 : (kc k).length = 3 := rfl; omega)]
  have HB : Hid (Below base w W2) := by
    apply hide
    rw [hW2, hW1]
    exact below_setRow (below_setRow ((Below.refl _ _).drew) h.bg _) h.bg _
  have HG : Hid (w.grownBy W2 (some g)) := by
    apply hide
    rw [hW2, hW1]
    exact grown_trans (grown_trans (grown_of_below (Below.refl w.heap.size w).drew _) (grown_setRow _ _ _)) (grown_setRow _ _ _)
  rw [← hn]
  have z1 : ¬ ((i : Int) = (n : Int)) := by omega
  have z2 : (i : Int) ≤ (n : Int) := by omega
  have z3 : ¬ ((cap : Int) < (n : Int) + 1) := by omega
  have z4 : ¬ cap = i := by omega
  have z5 : ¬ cap = i + 1 := by omega
  have z6 : (n : Int) + 1 ≤ (cap : Int) := by omega
  have z7 : i ≤ n := by omega
  have z8 : (i : Int) + 1 ≤ (n : Int) + 1 := by omega
  have z9 : (i : Int) ≤ (n : Int) + 1 := by omega
  have zn : (n : Int) ≤ 100000 := by omega
  have hlc : n ≤ cap := by omega
  have hw1 : IntKind.i64.wrap ((i : Int) + 1) = (i : Int) + 1 := by rw [IntKind.wrap_i64]; omega
  have hw2 : (0 : Int) ≤ (i : Int) + 1 := by omega
  have hw3 : ((i : Int) + 1).toNat = i + 1 := by omega
  clear hpart hA hR hXl hYl hc1 hc1l hc2 hW1 hb1 hvb1 hc2' hW2 hfit h hi hroom hvb hn hlen
  go_enter Try.func63, Try.ntmps63
  go_wp2_with (simp only [hov])
  go_region_law_o (refine step_copy_runI rfl _ _ 52 52 rfl _ _ (by simp [Act.eval, Act.put]) (by simp [Act.eval, Act.put]) (hcp1 _ _ _) ?_)
  go_wp2_with (at_builtin; refine wpList_copy_runI _ rfl _ _ 52 52 rfl _ _ rfl rfl (hcp2 _ _) ?_)
  go_ret
  exact ⟨⟨_, rfl, .inr ⟨g, o, cap, c2, HS.out⟩, .inl rfl⟩, HB.out, HG.out⟩
end Go.Proofs.Ytgbmigfamefenaa
