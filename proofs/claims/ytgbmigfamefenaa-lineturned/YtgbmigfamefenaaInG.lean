/- The contract of the library's Insert at rows of keys. -/
import Derived.Test.YtgbmigfamefenaaInS
namespace Go.Proofs.Ytgbmigfamefenaa
open Go.RowKit Go.Maps Go.Sort Go.Lib
set_option linter.unusedVariables false

theorem grow_cur (X Y Z1 Z2 K : List Value) (x y : Nat) (hX : X.length = x) (hY : Y.length = y) (hK : K.length = 3) (hZ : Z1.length = y + 3) (c0 c1 : List Value) (hc : c0 = X ++ (Z1 ++ Z2)) (h1 : c1 = c0.take x ++ K ++ c0.drop (x + 3)) :
    c1.length = c0.length ∧ c1.take (x + 3) ++ Y ++ c1.drop (x + 3 + y) = X ++ (K ++ (Y ++ Z2)) := by
  have hcl : c0.length = x + (y + 3) + Z2.length := by rw [hc]; simp only [List.length_append]; omega
  have e0 : c0.take x = X := by rw [hc, ← hX, List.take_left]
  have ed : c0.drop (x + 3) = Z1.drop 3 ++ Z2 := by
    rw [hc, List.drop_append, List.drop_of_length_le (by omega), List.nil_append, hX, show x + 3 - x = 3 by omega, List.drop_append_of_le_length (by omega)]
  have e1 : c1 = (X ++ K) ++ (Z1.drop 3 ++ Z2) := by rw [h1, e0, ed]
  have hl : (X ++ K).length = x + 3 := by rw [List.length_append]; omega
  refine ⟨?_, ?_⟩
  · rw [e1, hcl]
    simp only [List.length_append, List.length_drop]
    omega
  · rw [e1, ← hl, List.take_left, List.drop_append, List.drop_of_length_le (by omega), List.nil_append, show (X ++ K).length + y - (X ++ K).length = y by omega, List.drop_append, List.drop_of_length_le (by rw [List.length_drop]; omega), List.nil_append]
    have : y - (Z1.drop 3).length = 0 := by rw [List.length_drop]; omega
    rw [this, List.drop_zero]
    simp only [List.append_assoc]
set_option maxRecDepth 100000 in
set_option maxHeartbeats 4000000 in
theorem ins_grow (w : World) (base : Nat) (l : List K3) (g o cap i : Nat) (cur : List Value) (k : K3) (vb : Nat) (h : RoO w base (.slice (some ⟨g, o, none⟩) l.length cap) l g o cap cur) (hi : i < l.length) (hroom : ¬ l.length + 1 ≤ cap) (hvb : BxA w vb 55 #[.int .i64 k.1, .int .i64 k.2.1, .int .i64 k.2.2]) (hb : base ≤ w.heap.size) (hlen : l.length ≤ 100000) :
    Calls Try.prog 63 #[.slice (some ⟨g, o, none⟩) l.length cap, .int .i64 (i : Int), .slice (some ⟨vb, 0, none⟩) 1 1] w fun e w' => Ins w w' base (l.take i ++ k :: l.drop i) (some g) e := by
  have mixed : Try.prog.follows .mixedOrders = true := by kernel_rfl
  obtain ⟨i0, hi0, hi1, hi2, hi3⟩ := info_parts Try.info_key
  have hsz : (Try.prog.info? 55).map (·.size) = some 3 := by rw [hi0]; simp [hi2]
  have hle := h.le
  have hbig := h.big
  unfold maxLen at hbig
  obtain ⟨n, hn⟩ : ∃ n, n = l.length := ⟨_, rfl⟩
  have hcn : cap = n := by omega
  have hXl : (kcs (l.take i)).length = i * 3 := by rw [kcs_length, List.length_take, Nat.min_eq_left (by omega)]
  have hYl : (kcs (l.drop i)).length = (n - i) * 3 := by rw [kcs_length, List.length_drop, hn]
  obtain ⟨G, hG⟩ : ∃ G, G = grownCap w (n + 1) cap 55 := ⟨_, rfl⟩
  have hGge : n + 1 ≤ G := by rw [hG]; exact grownCap_ge w _ _ _
  have hGm : G ≤ maxLen := by rw [hG]; exact grownCap_le_maxLen w _ _ _ (by unfold maxLen; omega)
  obtain ⟨Z1, hZ1⟩ : ∃ Z, Z = (Builtin.zeroCells (Value.agg #[.int .i64 0, .int .i64 0, .int .i64 0]).cells (n + 1 - i)).toList := ⟨_, rfl⟩
  obtain ⟨Z2, hZ2⟩ : ∃ Z, Z = (Builtin.zeroCells (Value.agg #[.int .i64 0, .int .i64 0, .int .i64 0]).cells (G - (n + 1))).toList := ⟨_, rfl⟩
  have hZ1l : Z1.length = (n - i) * 3 + 3 := by rw [hZ1, Array.length_toList, zc3]; omega
  have hZ2l : Z2.length = (G - (n + 1)) * 3 := by rw [hZ2, Array.length_toList, zc3]
  obtain ⟨c0, hc0⟩ : ∃ c0, c0 = kcs (l.take i) ++ (Z1 ++ Z2) := ⟨_, rfl⟩
  have hgw : g < w.heap.size := (Array.getElem?_eq_some_iff.1 h.blk).1
  have hvw : vb < w.heap.size := hvb.lt
  have hrz : ∀ ty, (Builtin.append_ #[52, 3] ty #[.slice (some ⟨g, o, none⟩) i cap, .int .i64 ((n : Int) + 1 - (i : Int))]).run Try.prog w = .ok (.slice (some ⟨w.heap.size, 0, none⟩) (n + 1) G) (w.drew.alloc (.cells c0.toArray 55)) := fun ty => by
    have hold : (Builtin.firstCells i0.size i (.slice (some ⟨g, o, none⟩) i cap)).run Try.prog w.drew = .ok (kcs (l.take i)).toArray w.drew := by
      rw [hi2]
      exact run_firstCells_some w.drew 3 i ⟨g, o, none⟩ i cap (kcs (l.take i)) hXl (fun j u hj => by
        rw [Addr.add_lit]
        rw [kcs_take, List.getElem?_take] at hj
        split at hj
        · exact h.cell j u hj
        · cases hj)
    have hik : i + (n + 1 - i) = n + 1 := by omega
    have hkk : ((n + 1 - i : Nat) : Int) = (n : Int) + 1 - (i : Int) := by omega
    have := Lib.run_append_grow_zeros (P := Try.prog) w 52 3 ty 55 i0 _ .i64 .i64 Try.underlying52 Try.underlying3 hi0 hi1 (some ⟨g, o, none⟩) i cap (kcs (l.take i)) hold (n + 1 - i) (by omega) (by omega) (by omega) (by omega) (by rw [hi3]; omega) (by rw [hi3, hik]; exact growslice_fits (by omega) (by omega))
    rw [hik, hkk, ← hG] at this
    rw [this]
    congr 4
    rw [hc0, hZ1, hZ2]
    simp
  obtain ⟨N, hN⟩ : ∃ N, N = w.heap.size := ⟨_, rfl⟩
  obtain ⟨W1, hW1⟩ : ∃ W1, W1 = w.drew.alloc (.cells c0.toArray 55) := ⟨_, rfl⟩
  simp only [← hW1, ← hN] at hrz
  have hb0 : Below w.heap.size w W1 := by rw [hW1]; exact ((Below.refl w.heap.size w).drew).trans ((Below.refl w.heap.size w.drew).alloc (Nat.le_refl _) _)
  have hN1 : W1.heap[N]? = some (.cells c0.toArray 55 (0, 0)) := by rw [hW1, hN]; exact BxA.new w.drew _ _
  have hv1 : BxA W1 vb 55 #[.int .i64 k.1, .int .i64 k.2.1, .int .i64 k.2.2] := by unfold BxA at hvb ⊢; rw [hb0.block _ hvw]; exact hvb
  obtain ⟨c1, hc1⟩ : ∃ c1, c1 = c0.take (i * 3) ++ kc k ++ c0.drop (i * 3 + 3) := ⟨_, rfl⟩
  obtain ⟨hc1l, hc2⟩ := grow_cur (kcs (l.take i)) (kcs (l.drop i)) Z1 Z2 (kc k) (i * 3) ((n - i) * 3) hXl hYl rfl hZ1l c0 c1 hc0 hc1
  have hc0l : c0.length = G * 3 := by rw [hc0]; simp only [List.length_append, hXl, hZ1l, hZ2l]; omega
  have hcpA : ∀ ty dc, (Builtin.copy_ #[52, 52] ty #[.slice (some ⟨N, i * 3, none⟩) (n + 1 - i) dc, .slice (some ⟨vb, 0, none⟩) 1 1]).run Try.prog W1 = .ok (goInt 1) (W1.setRow N c1.toArray) := fun ty dc => by
    have e0 : Nat.min 1 (n + 1 - i) = 1 := by simp only [Nat.min_def]; split <;> omega
    have e3 : (kc k).length = 3 := rfl
    have := run_copyK (P := Try.prog) W1 52 52 ty 55 3 N (i * 3) (n + 1 - i) dc ⟨vb, 0, none⟩ 1 1 c0 55 (kc k) Try.underlying52 hsz hN1 (by rw [e0]; rfl) (cells_at hv1) (by rw [hc0l, e3]; omega) (kc_one k)
    rw [e0, e3, ← hc1] at this
    exact this
  obtain ⟨W2, hW2⟩ : ∃ W2, W2 = W1.setRow N c1.toArray := ⟨_, rfl⟩
  simp only [← hW2] at hcpA
  have hN2 : W2.heap[N]? = some (.cells c1.toArray 55 (0, 0)) := by rw [hW2]; exact setRow_heap W1 _ _ _ _ _ hN1
  have hg2 : W2.heap[g]? = w.heap[g]? := by rw [hW2, setRow_other _ _ _ _ (by omega)]; exact hb0.block _ hgw
  obtain ⟨c2, hc2'⟩ : ∃ c2, c2 = kcs (l.take i) ++ (kc k ++ (kcs (l.drop i) ++ Z2)) := ⟨_, rfl⟩
  have hcpB : ∀ ty dc sc, (Builtin.copy_ #[52, 52] ty #[.slice (some ⟨N, (i + 1) * 3, none⟩) (n - i) dc, .slice (some ⟨g, o + i * 3, none⟩) (n - i) sc]).run Try.prog W2.drew = .ok (goInt ((n - i : Nat) : Int)) (W2.drew.setRow N c2.toArray) := fun ty dc sc => by
    have e0 : Nat.min (n - i) (n - i) = n - i := Nat.min_self _
    have e1 : (i + 1) * 3 = i * 3 + 3 := by omega
    have := run_copyK (P := Try.prog) W2.drew 52 52 ty 55 3 N ((i + 1) * 3) (n - i) dc ⟨g, o + i * 3, none⟩ (n - i) sc c1 55 (kcs (l.drop i)) Try.underlying52 hsz hN2 (by rw [e0, hYl])
      (fun j u hj => by
        rw [kcs_drop, List.getElem?_drop] at hj
        have h1 := h.cell (i * 3 + j) u hj
        rw [Addr.add_lit, Nat.add_assoc]
        show W2.cell? _ = _
        rw [World.cell?_of_block (w := w) hg2]
        exact h1)
      (by rw [hYl, hc1l, hc0l]; omega) (kcs_one _)
    rw [e0, hYl, e1, hc2, ← hc2'] at this
    rw [e1]
    exact this
  obtain ⟨W3, hW3⟩ : ∃ W3, W3 = W2.drew.setRow N c2.toArray := ⟨_, rfl⟩
  simp only [← hW3] at hcpB
  have HS : Hid (RoO W3 base (.slice (some ⟨N, 0, none⟩) (n + 1) G) (l.take i ++ k :: l.drop i) N 0 G c2) := by
    apply hide
    have hll : (l.take i ++ k :: l.drop i).length = n + 1 := by simp only [List.length_append, List.length_take, List.length_cons, List.length_drop]; omega
    have e1 : kcs (l.take i ++ k :: l.drop i) = kcs (l.take i) ++ (kc k ++ kcs (l.drop i)) := by rw [kcs_append]; rfl
    have e3 : (kc k).length = 3 := rfl
    refine ⟨by rw [hll], by rw [hN]; exact hb, by rw [hW3]; exact setRow_heap W2.drew _ _ _ _ _ hN2, by rw [hll]; exact hGge, ?_, hGm, ?_⟩
    · rw [hc2']
      simp only [List.length_append, hXl, hYl, hZ2l, e3]
      omega
    · rw [hll, e1, hc2', List.drop_zero]
      have e2 : kcs (l.take i) ++ (kc k ++ (kcs (l.drop i) ++ Z2)) = (kcs (l.take i) ++ (kc k ++ kcs (l.drop i))) ++ Z2 := by simp only [List.append_assoc]
      rw [e2, List.take_append_of_le_length (by simp only [List.length_append, hXl, hYl]; omega), List.take_of_length_le (by simp only [List.length_append, hXl, hYl]; omega)]
  have HB0 : Hid (Below w.heap.size w W3) := by
    apply hide
    have h1 : Below w.heap.size w W2 := by rw [hW2]; exact below_setRow hb0 (by omega) _
    rw [hW3]
    exact below_setRow h1.drew (by omega) _
  have HNl : Hid (w.heap.size ≤ N) := by apply hide; omega
  rw [← hn]
  have z1 : ¬ ((i : Int) = (n : Int)) := by omega
  have z2 : (i : Int) ≤ (n : Int) := by omega
  have z4 : ¬ n = i := by omega
  have z5 : ¬ G = i + 1 := by omega
  have z6 : ¬ G = i := by omega
  have z7 : i ≤ n := by omega
  have z8 : (i : Int) + 1 ≤ (n : Int) + 1 := by omega
  have z9 : (i : Int) ≤ (n : Int) + 1 := by omega
  have zn : (n : Int) ≤ 100000 := by omega
  have hw1 : IntKind.i64.wrap ((i : Int) + 1) = (i : Int) + 1 := by rw [IntKind.wrap_i64]; omega
  have hw2 : (0 : Int) ≤ (i : Int) + 1 := by omega
  have hw3 : ((i : Int) + 1).toNat = i + 1 := by omega
  unfold maxLen at hGm
  clear hXl hYl hZ1 hZ2 hZ1l hZ2l hc0 hgw hvw hW1 hb0 hN1 hv1 hc1 hc1l hc2 hc0l hW2 hN2 hg2 hc2' hW3 h hi hroom hvb hn hlen hG hN hle
  subst hcn
  go_enter Try.func63, Try.ntmps63
  go_wp2_with (first
    | (at_builtin; refine Lib.wpList_append_run _ rfl _ _ _ _ rfl _ _ rfl rfl _ _ (hrz _) ?_)
    | (at_builtin; refine wpList_copy_runI _ rfl _ _ 52 52 rfl _ _ rfl rfl (hcpA _ _) ?_))
  go_region_law_o (refine step_copy_runI rfl _ _ 52 52 rfl _ _ (by simp [Act.eval, Act.put]) (by simp [Act.eval, Act.put]) (hcpB _ _ _) ?_)
  go_wp2
  go_ret
  exact ⟨⟨_, rfl, .inr ⟨N, 0, G, c2, HS.out⟩, .inr ⟨_, rfl, HNl.out⟩⟩, HB0.out.mono hb, grown_of_below HB0.out _⟩
/-- Insert. -/
theorem ins_any (w : World) (base : Nat) (v : Value) (l : List K3) (i : Nat) (k : K3) (vb : Nat) (h : RowO w base v l) (hi : i ≤ l.length) (hvb : BxA w vb 55 #[.int .i64 k.1, .int .i64 k.2.1, .int .i64 k.2.2]) (hne : v.ownBlock ≠ some vb) (hb : base ≤ w.heap.size) (hlen : l.length ≤ 100000) :
    Calls Try.prog 63 #[v, .int .i64 (i : Int), .slice (some ⟨vb, 0, none⟩) 1 1] w fun e w' => Ins w w' base (l.take i ++ k :: l.drop i) v.ownBlock e := by
  by_cases he : i = l.length
  · subst he
    have := ins_end w base v l k vb h hvb hb hlen
    rw [List.take_of_length_le (Nat.le_refl _), List.drop_of_length_le (Nat.le_refl _)]
    exact this
  · rcases h with ⟨rfl, rfl⟩ | ⟨g, o, cap, cur, h⟩
    · simp at hi he
      omega
    · have hv := h.v
      subst hv
      have hgv : vb ≠ g := fun q => hne (by rw [q]; rfl)
      by_cases hroom : l.length + 1 ≤ cap
      · exact ins_shift w base l g o cap i cur k vb h (by omega) hroom hvb hgv hlen
      · exact ins_grow w base l g o cap i cur k vb h (by omega) hroom hvb hb hlen
end Go.Proofs.Ytgbmigfamefenaa
