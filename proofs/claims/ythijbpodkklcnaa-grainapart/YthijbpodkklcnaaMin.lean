/- The contract of Minus. -/
import Derived.Test.YthijbpodkklcnaaSort
namespace Go.Proofs.Ythijbpodkklcnaa
open Go.RowKit Go.Sort

theorem mst_length (T : Int) : ∀ (l : List Sp) (x : List Sp × Int), (l.foldl (mst T) x).1.length ≤ x.1.length + l.length
  | [], x => by simp
  | g :: l, x => by
    have h1 := mst_length T l (mst T x g)
    have h2 := wp_length x.1 (x.2, min T g.1)
    simp only [List.foldl_cons, List.length_cons]
    have h3 : (mst T x g).1.length ≤ x.1.length + 1 := h2
    omega

set_option maxHeartbeats 4000000 in
theorem minus_any (w : World) (s : Sp) (v : Value) (l : List Sp) (h : RdP w v l) (hbig : (l.length + 2) * 16 ≤ 160842843834660) :
    Calls Try.prog 21 #[.agg #[.int .i64 s.1, .int .i64 s.2], v] w fun e w' => ∃ v', e = .returned v' ∧ ∃ r, OwP w' w.heap.size v' r ∧ Norm r ∧ (∀ t, any r t = (hol s t && !any l t)) ∧ r.length ≤ l.length + 1 ∧ Below w.heap.size w w' := by
  obtain ⟨F0, T⟩ := s
  simp only
  obtain ⟨W, hW⟩ : ∃ W, W = w.alloc (.cells #[.int .i64 F0, .int .i64 T] 23) := ⟨_, rfl⟩
  have bW : Below w.heap.size w W := by rw [hW]; exact (Below.refl _ _).alloc (Nat.le_refl _) _
  have hsW : W.heap.size = w.heap.size + 1 := by rw [hW]; simp
  have x0 : W.cell? ⟨w.heap.size, 0, none⟩ = some (.int .i64 F0) := by rw [hW]; simp
  have x1 : W.cell? ⟨w.heap.size, 1, none⟩ = some (.int .i64 T) := by rw [hW]; simp
  have x2 : W.frozen? ⟨w.heap.size, 0, none⟩ = false := by rw [hW]; simp
  have kB := byFrom_any W v l (h.below bW) (by omega)
  obtain ⟨ao, n0, cap, rfl⟩ := h.sl
  have HW : Hid _ := hW
  have HX : Hid _ := And.intro bW (And.intro hsW (And.intro x0 (And.intro x1 x2)))
  rw [hW] at kB
  clear h hW bW hsW x0 x1 x2
  go_enter Try.func21, Try.ntmps21
  go_wp2_with fail
  refine kB.mono ?_
  rintro e w1 ⟨v1, rfl, l', hp, hr, rd, ls, b1⟩
  rw [← HW.out] at ls b1
  obtain ⟨bW, hsW, x0, x1, x2⟩ := HX.out
  have y0 : w1.cell? ⟨w.heap.size, 0, none⟩ = some (.int .i64 F0) := by rw [b1.cell (by rw [hsW]; exact Nat.lt_succ_self _)]; exact x0
  have y1 : w1.cell? ⟨w.heap.size, 1, none⟩ = some (.int .i64 T) := by rw [b1.cell (by rw [hsW]; exact Nat.lt_succ_self _)]; exact x1
  have y2 : w1.frozen? ⟨w.heap.size, 0, none⟩ = false := by rw [b1.frozen (by rw [hsW]; exact Nat.lt_succ_self _)]; exact x2
  have hs1 : w.heap.size + 1 ≤ w1.heap.size := by have := b1.size; omega
  have bel1 : Below w.heap.size w w1 := bW.trans (b1.mono (by omega))
  have hfull : ∀ q ∈ l', q.1 < q.2 := fun q hq => by
    have := (List.mem_filter.1 (hp.mem_iff.1 hq)).2
    simp [emp] at this; omega
  have hlen : l'.length ≤ l.length := by rw [hp.length_eq]; exact List.length_filter_le _ _
  have hany : ∀ t, any l' t = any l t := fun t => by rw [any_perm hp, any_full]
  obtain ⟨a1, n, c1, rfl⟩ := rd.sl
  obtain ⟨hn, k1, k2, -⟩ := rd.at
  unfold maxLen at k2
  have HN : Hid (n = l'.length ∧ l'.length ≤ l.length) := ⟨hn, hlen⟩
  have HL : Hid (Lies (w.heap.size + 1) w1.heap.size (.slice a1 n c1)) := by rw [hsW] at ls; exact ls
  have HF : Hid _ := And.intro hr (And.intro hfull hany)
  have HRd : Hid (RdP w1 (.slice a1 n c1) l') := rd
  have HB1 : Hid _ := bel1
  have hbn : (n + 2) * 16 ≤ 160842843834660 := by omega
  clear kB HX bW hsW x0 x1 x2 hp hr hfull hany hlen ls b1 rd hn bel1 hbig HW
  go_wp2_with fail
  go_loopg [5, 11] n (fun kx v5 vi wr => ∃ (i : Nat) (out : List Sp) (F : Int), vi = .int .i64 i ∧ i ≤ n ∧ n - i ≤ kx ∧ Hid (OwP wr w1.heap.size v5 out) ∧ wr.cell? ⟨w.heap.size, 0, none⟩ = some (.int .i64 F) ∧ wr.cell? ⟨w.heap.size, 1, none⟩ = some (.int .i64 T) ∧ wr.frozen? ⟨w.heap.size, 0, none⟩ = false ∧ Hid ((out, F) = (l'.take i).foldl (mst T) ([], F0)) ∧ Hid (RdP wr (.slice a1 n c1) l') ∧ Hid (Below w.heap.size w wr) ∧ w1.heap.size ≤ wr.heap.size)
  case atStart => exact ⟨0, [], F0, rfl, by omega, Nat.le_refl _, OwP.nil _ _, y0, y1, y2, rfl, HRd.out, HB1.out, Nat.le_refl _⟩
  case round =>
    clear y0 y1 y2
    obtain ⟨i, out, F, rfl, hin, hkx, HO, c0, c1', f0, HX, HR, HB, hsz⟩ := hrel
    obtain ⟨a5, n5, c5, hv⟩ := own_sl HO.out
    subst hv
    have hol5 : out.length ≤ i := by
      have := mst_length T (l'.take i) ([], F0)
      rw [← HX.out] at this
      simp at this; omega
    by_cases hlt : i < n
    · have hltz : (i : Int) < (n : Int) := by omega
      have hil : i < l'.length := by have := HN.out.1; omega
      obtain ⟨-, -, -, hk⟩ := HR.out.at
      obtain ⟨b, off, rfl, hcl⟩ := hk (by omega)
      obtain ⟨q0, q1⟩ := hcl i hil
      have htk : l'.take (i + 1) = l'.take i ++ [l'[i]] := List.take_succ_eq_append_getElem hil
      generalize l'[i] = x at *
      obtain ⟨G, E⟩ := x
      simp only at q0 q1
      obtain ⟨W, hW⟩ : ∃ W, W = wr.alloc (.cells #[.int .i64 G, .int .i64 E] 23) := ⟨_, rfl⟩
      have bW : Below wr.heap.size wr W := by rw [hW]; exact (Below.refl _ _).alloc (Nat.le_refl _) _
      have kP := withPart_any W w1.heap.size (.slice a5 n5 c5) out (F, min T G) (HO.out.below bW) (by have := bW.size; omega) (by omega)
      have z0 : W.cell? ⟨w.heap.size, 0, none⟩ = some (.int .i64 F) := by rw [bW.cell (by show w.heap.size < _; omega)]; exact c0
      have z1 : W.cell? ⟨w.heap.size, 1, none⟩ = some (.int .i64 T) := by rw [bW.cell (by show w.heap.size < _; omega)]; exact c1'
      have HFz : Hid (W.frozen? ⟨w.heap.size, 0, none⟩ = false) := by show _ = _; rw [bW.frozen (by show w.heap.size < _; omega)]; exact f0
      have HT : Hid _ := htk
      have hnewc : W.cell? ⟨wr.heap.size, 1, none⟩ = some (.int .i64 E) := by rw [hW]; simp
      have hnews : wr.heap.size < W.heap.size := by rw [hW]; simp
      have HNew : Hid _ := And.intro hnewc hnews
      have HW : Hid _ := hW
      have HBW : Hid (Below w.heap.size w W ∧ Below wr.heap.size wr W) := ⟨HB.out.trans (bW.mono HB.out.size), bW⟩
      have HZ : Hid _ := And.intro z0 z1
      rw [hW] at kP z0 z1
      clear hcl htk hW bW hk hnewc hnews
      go_wp2_with fail
      refine kP.mono ?_
      rintro e w5 ⟨v5, rfl, o5, b5, g5⟩
      rw [← HW.out] at b5 g5
      obtain ⟨z0', z1'⟩ := HZ.out
      obtain ⟨hnc, hns⟩ := HNew.out
      have t0 : w5.cell? ⟨w.heap.size, 0, none⟩ = some (.int .i64 F) := by rw [b5.cell (by show w.heap.size < _; omega)]; exact z0'
      have t1 : w5.cell? ⟨w.heap.size, 1, none⟩ = some (.int .i64 T) := by rw [b5.cell (by show w.heap.size < _; omega)]; exact z1'
      have t2 : w5.frozen? ⟨w.heap.size, 0, none⟩ = false := by rw [b5.frozen (by show w.heap.size < _; omega)]; exact HFz.out
      have t3 : w5.cell? ⟨wr.heap.size, 1, none⟩ = some (.int .i64 E) := by
        have e : w5.cell? ⟨wr.heap.size, 1, none⟩ = W.cell? ⟨wr.heap.size, 1, none⟩ := World.cell?_of_block (w := W) (g5.block _ hns fun hk => by
          have : wr.heap.size < wr.heap.size := (World.ownsRow.lt HO.out _ hk.symm).2
          omega)
        rw [e]; exact hnc
      have HO5 : Hid _ := And.intro o5 b5
      clear o5 b5 g5 kP z0 z1 c0 c1' f0 HZ HNew hnc hns z0' z1'
      go_wp2_with fail
      go_roundg (n - (i + 1))
      case measure => omega
      case rel =>
        obtain ⟨o5, b5⟩ := HO5.out
        obtain ⟨bw1, bw2⟩ := HBW.out
        refine ⟨i + 1, wp out (F, min T G), max F E, by go_num, by omega, Nat.le_refl _, ?_, ?_, ?_, ?_, ?_, ?_, ?_, ?_⟩
        · exact ownsRow_setCell_below o5 (by show w.heap.size < _; omega) _
        · exact World.cell?_setCell_same _ _ _ t0
        · rw [World.cell?_setCell_other _ _ _ _ (by simp)]; exact t1
        · simpa using t2
        · show _ = _
          rw [HT.out, List.foldl_append, ← HX.out]
          rfl
        · refine RdP.keep (w := wr) HR.out HL.out fun k h1 h2 => ?_
          rw [Below.heap_setCell _ _ _ _ (by show k ≠ w.heap.size; omega), b5.block k h2, bw2.block k (by omega)]
        · exact (bw1.trans (b5.mono (by omega))).setCell (Nat.le_refl _) _
        · have := b5.size
          have := bw2.size
          simp at *; omega
    · have hltz : ¬ (i : Int) < (n : Int) := by omega
      have kP := withPart_any wr w1.heap.size (.slice a5 n5 c5) out (F, T) HO.out hsz (by omega)
      go_wp2_with fail
      refine kP.mono ?_
      rintro e w5 ⟨v5, rfl, o5, b5, -⟩
      have HO5 : Hid _ := And.intro o5 b5
      clear o5 b5 kP
      go_wp2_with fail
      go_ret
      obtain ⟨o5, b5⟩ := HO5.out
      obtain ⟨g1, g2, g3⟩ := HF.out
      have hx := HX.out
      rw [List.take_of_length_le (by have := HN.out.1; omega)] at hx
      have hm := mns_norm (s := (F0, T)) g1 g2
      have em : mns (F0, T) l' = wp out (F, T) := by unfold mns; rw [← hx]
      rw [em] at hm
      have hl2 := wp_length out (F, T)
      have hN := HN.out
      exact ⟨_, rfl, wp out (F, T), o5.mono (by omega), hm.1, (fun t => by rw [hm.2, g3]), by omega, HB.out.trans (b5.mono (by omega))⟩
end Go.Proofs.Ythijbpodkklcnaa
