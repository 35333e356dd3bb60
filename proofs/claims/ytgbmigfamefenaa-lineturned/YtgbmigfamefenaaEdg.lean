/- Contracts: the library's Sort and Compact at rows of int64, edgesOf. -/
import Derived.Test.YtgbmigfamefenaaSgs
import Derived.Shelf.SortG.Plain
import Derived.Shelf.SortG.SortNone
import Derived.Shelf.SlicesG.CompactI
import Derived.Ground.SlgnProg
import Derived.Sort.OwnSorted
import Derived.Lib.OwnBridge
import Derived.Lib.RowBridge
namespace Go.Proofs.Ytgbmigfamefenaa
open Go.Shelf Go.RowKit Go.Maps Go.Sort
set_option linter.unusedVariables false
shelf_lay_g SlLaysN.n53 Slgn 53 at Try 60 as sortI
shelf_lay_g SlLaysN.n43 Slgn 43 at Try 61 as compI

theorem iv_enc (l : List Int) : iv l = l.map (Value.int .i64) := rfl
theorem iv_append (l m : List Int) : iv (l ++ m) = iv l ++ iv m := by simp [iv]
def srtI (l : List Int) : List Int := l.mergeSort fun x y => decide (x ≤ y)
theorem srtI_length (l : List Int) : (srtI l).length = l.length := List.length_mergeSort l
def OwJ (w : World) (base : Nat) (v : Value) (l : List Int) : Prop := w.ownsRow base 2 1 v l.length (iv l)
theorem sortI_any (w : World) (base : Nat) (v : Value) (l : List Int) (h : OwJ w base v l) (hb : base ≤ w.heap.size) (hbig : l.length ≤ 4611686018427387903) :
    Calls Try.prog 60 #[v] w fun e w' => e = .returned (.tuple #[]) ∧ OwJ w' base v (srtI l) ∧ Below base w w' := by
  by_cases hn : v = .slice none 0 0
  · subst hn
    have hl : l = [] := by
      rcases h.2 with ⟨_, h1⟩ | ⟨g, cap, cur, h1, _⟩
      · exact List.eq_nil_of_length_eq_zero h1
      · cases h1
    subst hl
    have k := AnyG.slices_Sort_int_none sortI none 0 w
    change Calls Try.prog 60 _ _ _ at k
    refine k.mono ?_
    rintro e w' ⟨rfl, rfl⟩
    have e : srtI [] = [] := by simp [srtI]
    rw [e]
    exact ⟨rfl, h, Below.refl _ _⟩
  · have h' : w.ownsRow base 2 1 v l.length (l.map (Value.int .i64)) := h
    obtain ⟨g, cap, rfl, hbg, hgl, hncap, hcm, hlen, hH⟩ := Lib.holds_of_ownsRow h' hn
    have k := AnyG.slices_Sort_int sortI g 0 cap l w hH hgl (by omega)
    change Calls Try.prog 60 _ _ _ at k
    refine k.mono ?_
    rintro e w' ⟨rfl, n, os, rfl⟩
    have hle : (srtI l).length ≤ l.length := by rw [srtI_length]; exact Nat.le_refl _
    have hc := Lib.ownsRow_putRow (q := n) (k := (srtI l).length) (ys := srtI l) h' (by rw [srtI_length]) hle
    rw [List.take_length] at hc
    have hbp := Lib.below_putRow (q := n) (g := g) (enc := Value.int .i64) (d := (srtI l).toArray) (Below.refl base w) hbg
    have hbg2 := gro_below (putRow (Value.int .i64) (Sort.ahead w n) g 0 (srtI l).toArray) 0 os
    have hc2 := owns_block hc fun r hr => hbg2.block r (own_lt hc r hr).2
    refine ⟨rfl, ?_, hbp.trans (hbg2.mono (Nat.le_trans hb hbp.size))⟩
    unfold OwJ
    rw [srtI_length] at hc2 ⊢
    exact hc2
theorem compI_any (w : World) (base : Nat) (v : Value) (l : List Int) (h : OwJ w base v l) (hbig : l.length ≤ 4611686018427387903) :
    Calls Try.prog 61 #[v] w fun e w' => ∃ v', e = .returned v' ∧ OwJ w' base v' (Lib.compact l) ∧ Below base w w' := by
  by_cases hn : v = .slice none 0 0
  · subst hn
    have hl : l = [] := by
      rcases h.2 with ⟨_, h1⟩ | ⟨g, cap, cur, h1, _⟩
      · exact List.eq_nil_of_length_eq_zero h1
      · cases h1
    subst hl
    have k := AnyG.slices_Compact_int_empty compI none 0 w
    change Calls Try.prog 61 _ _ _ at k
    refine k.mono ?_
    rintro e w' ⟨rfl, rfl⟩
    exact ⟨_, rfl, h, Below.refl _ _⟩
  · have h' : w.ownsRow base 2 1 v l.length (l.map (Value.int .i64)) := h
    obtain ⟨g, cap, rfl, hbg, hgl, hncap, hcm, hlen, hH⟩ := Lib.holds_of_ownsRow h' hn
    have k := AnyG.slices_Compact_int compI g 0 cap l w hH (by omega) (by omega)
    change Calls Try.prog 61 _ _ _ at k
    refine k.mono ?_
    rintro e w' ⟨rfl, q, rfl⟩
    have hle := Lib.compact_length_le l
    have hc := Lib.ownsRow_putRow (q := q) (k := (Lib.compact l).length) (ys := Lib.compact l ++ List.replicate (l.length - (Lib.compact l).length) 0) h' (by simp; omega) hle
    rw [List.take_left] at hc
    exact ⟨_, rfl, hc, Lib.below_putRow (Below.refl _ _) hbg⟩
/-- Times at which sets begin or end, rising. -/
structure Edges (ks : List K3) (E : List Int) : Prop where
  rise : E.Pairwise (· < ·)
  mem : ∀ x, x ∈ E ↔ ∃ k ∈ ks, x = k.1 ∨ x = k.2.1
theorem compact_int (d : Array Int) (hs : ∀ i j, i ≤ j → j < d.size → d[i]! ≤ d[j]!) : ∀ m, m ≤ d.size →
    (Lib.compactUpTo d m).Pairwise (· < ·) ∧ ∀ t, t ∈ Lib.compactUpTo d m ↔ ∃ j, j < m ∧ d[j]! = t
  | 0, _ => ⟨by simp [Lib.compactUpTo], by simp [Lib.compactUpTo]⟩
  | m + 1, hm => by
    obtain ⟨h1, h2⟩ := compact_int d hs m (by omega)
    rw [Lib.compactUpTo_succ]
    by_cases hk : Lib.keeps d m = true
    · rw [if_pos hk]
      have hnew : ∀ j, j < m → d[j]! < d[m]! := fun j hj => by
        have hm0 : m ≠ 0 := by omega
        have hne : d[m]! ≠ d[m - 1]! := by
          unfold Lib.keeps at hk
          rcases of_decide_eq_true hk with q | q
          · exact absurd q hm0
          · exact q
        have a1 := hs j (m - 1) (by omega) (by omega)
        have a2 := hs (m - 1) m (by omega) (by omega)
        omega
      refine ⟨List.pairwise_append.2 ⟨h1, List.pairwise_singleton .., fun a ha b hb => ?_⟩, fun t => ?_⟩
      · rw [List.mem_singleton.1 hb]
        obtain ⟨j, hj, rfl⟩ := (h2 a).1 ha
        exact hnew j hj
      · rw [List.mem_append, h2 t, List.mem_singleton]
        constructor
        · rintro (⟨j, hj, e⟩ | e)
          · exact ⟨j, by omega, e⟩
          · exact ⟨m, by omega, e.symm⟩
        · rintro ⟨j, hj, e⟩
          by_cases q : j = m
          · exact .inr (by rw [← e, q])
          · exact .inl ⟨j, by omega, e⟩
    · rw [if_neg hk, List.append_nil]
      refine ⟨h1, fun t => ?_⟩
      rw [h2 t]
      have hm0 : m ≠ 0 := fun q => hk (by unfold Lib.keeps; simp [q])
      have heq : d[m]! = d[m - 1]! := by
        unfold Lib.keeps at hk
        have := fun q => hk (decide_eq_true q)
        by_cases q : d[m]! = d[m - 1]!
        · exact q
        · exact absurd (.inr q) this
      constructor
      · rintro ⟨j, hj, e⟩
        exact ⟨j, by omega, e⟩
      · rintro ⟨j, hj, e⟩
        by_cases q : j = m
        · exact ⟨m - 1, by omega, by rw [← heq, ← q, e]⟩
        · exact ⟨j, by omega, e⟩
def edF (ks : List K3) : List Int := ks.flatMap fun k => [k.1, k.2.1]
def edL (ks : List K3) : List Int := Lib.compact (srtI (edF ks))
theorem edges_of (ks : List K3) : Edges ks (edL ks) := by
  have hp : (srtI (edF ks)).Perm (edF ks) := List.mergeSort_perm _ _
  have hr : (srtI (edF ks)).Pairwise fun a b => decide (a ≤ b) = true := List.pairwise_mergeSort (fun a b c q1 q2 => by
    simp only [decide_eq_true_eq] at q1 q2 ⊢
    omega) (fun a b => by
    simp only [Bool.or_eq_true, decide_eq_true_eq]
    omega) _
  have h := compact_int (srtI (edF ks)).toArray (fun i j hij hj => by
    have hj' : j < (srtI (edF ks)).length := by simpa using hj
    have hi' : i < (srtI (edF ks)).length := by omega
    rw [getElem!_pos (srtI (edF ks)).toArray i (by simpa using hi'), getElem!_pos (srtI (edF ks)).toArray j hj]
    simp only [List.getElem_toArray]
    by_cases q : i = j
    · subst q; exact Int.le_refl _
    · have := List.pairwise_iff_getElem.1 hr i j hi' hj' (by omega)
      simpa using this) (srtI (edF ks)).length (by simp)
  refine ⟨h.1, fun x => ?_⟩
  unfold edL Lib.compact
  rw [h.2 x]
  have e1 : (∃ j, j < (srtI (edF ks)).length ∧ (srtI (edF ks)).toArray[j]! = x) ↔ x ∈ srtI (edF ks) := by
    rw [List.mem_iff_getElem]
    constructor
    · rintro ⟨j, hj, e⟩
      rw [getElem!_pos (srtI (edF ks)).toArray j (by simpa using hj)] at e
      exact ⟨j, hj, by simpa using e⟩
    · rintro ⟨j, hj, e⟩
      refine ⟨j, hj, ?_⟩
      rw [getElem!_pos (srtI (edF ks)).toArray j (by simpa using hj)]
      simpa using e
  rw [e1, hp.mem_iff]
  unfold edF
  simp [List.mem_flatMap]
theorem edL_len (ks : List K3) : (edL ks).length ≤ 2 * ks.length := by
  unfold edL
  refine Nat.le_trans (Lib.compact_length_le _) ?_
  rw [srtI_length]
  unfold edF
  induction ks with
  | nil => simp
  | cons a l ih => simp at ih ⊢; omega
theorem Try.info_i64 : (Try.prog.info? 2).map (fun i => (i.zero, i.size, i.bytes)) = some (some (.int .i64 0), 1, 8) := by kernel_rfl
set_option maxRecDepth 100000 in
set_option maxHeartbeats 3200000 in
theorem edgesOf_any (w : World) (v : Value) (ks : List K3) (hv : RdsK 3 w v ks.length (kcs ks)) (hfew : ks.length ≤ 100000) :
    Calls Try.prog 41 #[v] w fun ev w' => ∃ v', ev = .returned v' ∧ OwJ w' w.heap.size v' (edL ks) ∧ Below w.heap.size w w' := by
  obtain ⟨i0, hi0, hi1, hi2, hi3⟩ := info_parts Try.info_i64
  obtain ⟨va, vc, rfl, hvc1, hvc2, hvc⟩ := hv.at3
  have HV : Hid (0 < ks.length → ∃ b o, va = some ⟨b, o, none⟩ ∧ ∀ i (hi : i < ks.length), w.cell? ⟨b, o + i * 3, none⟩ = some (.int .i64 ks[i].1) ∧ w.cell? ⟨b, o + i * 3 + 1, none⟩ = some (.int .i64 ks[i].2.1) ∧ w.cell? ⟨b, o + i * 3 + 2, none⟩ = some (.int .i64 ks[i].2.2)) := hvc
  obtain ⟨n, hn⟩ : ∃ n, n = ks.length := ⟨_, rfl⟩
  have HN : Hid (n = ks.length) := hn
  rw [← hn] at hvc1 hfew
  rw [← hn]
  unfold maxLen at hvc2
  clear hv hvc hn
  go_enter Try.func41, Try.ntmps41
  go_wp2_with fail
  go_loopg [3, 5, 8] n (fun kx v3 _ v8 wr => ∃ (i : Nat) (acc : List Int) (x3 : Value), x3 = v3 ∧ v8 = .int .i64 (i : Int) ∧ i ≤ n ∧ n - i ≤ kx ∧ acc.length = 2 * i ∧ Hid (acc = edF (ks.take i)) ∧ Hid (wr.ownsRow w.heap.size 2 1 x3 acc.length (iv acc)) ∧ Hid (Below w.heap.size w wr))
  case atStart => exact ⟨0, [], _, rfl, rfl, Nat.zero_le _, Nat.le_refl _, rfl, rfl, ⟨rfl, .inl ⟨rfl, rfl⟩⟩, Below.refl _ _⟩
  case round =>
    obtain ⟨i, acc, x3, rfl, rfl, hi, hkx, hal, HA, HO, HB⟩ := hrel
    by_cases hlt : i < n
    · have hltz : (i : Int) < (n : Int) := by omega
      have hil : i < ks.length := by have := HN.out; omega
      obtain ⟨vb, vo, rfl, hcs⟩ := HV.out (by omega)
      obtain ⟨q0, q1, q2⟩ := hcs i hil
      have htk : edF (ks.take (i + 1)) = edF (ks.take i) ++ [ks[i].1, ks[i].2.1] := by
        unfold edF
        rw [List.take_succ_eq_append_getElem hil, List.flatMap_append]
        simp
      obtain ⟨k, hk⟩ : ∃ k, k = ks[i] := ⟨_, rfl⟩
      rw [← hk] at q0 q1 q2 htk
      have p0 : wr.cell? ⟨vb, vo + i * 3, none⟩ = some (.int .i64 k.1) := (HB.out.cell (World.block_lt_of_cell? _ _ q0)).trans q0
      have p1 : wr.cell? ⟨vb, vo + i * 3 + 1, none⟩ = some (.int .i64 k.2.1) := (HB.out.cell (World.block_lt_of_cell? _ _ q1)).trans q1
      have p2 : wr.cell? ⟨vb, vo + i * 3 + 2, none⟩ = some (.int .i64 k.2.2) := (HB.out.cell (World.block_lt_of_cell? _ _ q2)).trans q2
      obtain ⟨k1, k2, k3⟩ := k
      simp only at p0 p1 p2 htk
      have HTK : Hid _ := htk
      obtain ⟨w4, hw4⟩ : ∃ w4, w4 = (wr.alloc (.cells #[.int .i64 k1, .int .i64 k2, .int .i64 k3] 55)).alloc (.cells #[.int .i64 k1, .int .i64 k2] 2) := ⟨_, rfl⟩
      have hsW : (wr.alloc (.cells #[.int .i64 k1, .int .i64 k2, .int .i64 k3] 55)).heap.size = wr.heap.size + 1 := by simp
      have HLO : Hid (RdsK 1 w4 (.slice (some ⟨wr.heap.size + 1, 0, none⟩) 2 2) 2 [.int .i64 k1, .int .i64 k2]) := by
        apply hide
        rw [hw4, ← hsW]
        exact RdsK.of_own (lit_ownK _ [.int .i64 k1, .int .i64 k2] 2 2 1 rfl (by simp [maxLen]))
      have HAO : Hid (w4.ownsRow w.heap.size 2 1 x3 acc.length (iv acc)) := by apply hide; rw [hw4]; exact World.ownsRow.alloc (World.ownsRow.alloc HO.out _) _
      have HW4 : Hid (w4 = (wr.alloc (.cells #[.int .i64 k1, .int .i64 k2, .int .i64 k3] 55)).alloc (.cells #[.int .i64 k1, .int .i64 k2] 2)) := hw4
      have hsz4 : w.heap.size ≤ w4.heap.size := by rw [hw4]; have := HB.out.size; simp; omega
      have HW1 : Hid (wrap64 ((i : Int) + 1) = (i : Int) + 1) := by apply hide; rw [← IntWalk.i64_left, IntKind.wrap_i64]; omega
      clear hcs q0 q1 q2 htk hk hil hw4 hsW
      go_wp2_with (first | (at_builtin; rw [← HW4.out]; refine wpList_appF rfl _ _ 81 rfl w.heap.size 2 i0 (.int .i64 0) 1 8 Try.underlying81 hi0 hi1 hi2 hi3 rfl (by decide) x3 acc.length (iv acc) rfl HAO.out (.slice (some ⟨wr.heap.size + 1, 0, none⟩) 2 2) 2 [.int .i64 k1, .int .i64 k2] rfl HLO.out (fun u hu => by simp at hu; rcases hu with rfl | rfl <;> rfl) (by unfold maxLen; omega) (by omega) hsz4 ?_; intro v6 w6 o6 g6 hx6; have H6 : Hid (w6.ownsRow w.heap.size 2 1 v6 (acc.length + 2) (iv acc ++ [.int .i64 k1, .int .i64 k2]) ∧ w4.grownBy w6 x3.ownBlock) := ⟨o6, g6⟩; clear o6 g6 hx6))
      obtain ⟨o6, g6⟩ := H6.out
      have gA : wr.grownBy w6 x3.ownBlock := grown_trans (by rw [HW4.out]; exact grown_trans (grown_alloc _ _ _) (grown_alloc _ _ _)) g6
      have hyb : ∀ r, x3.ownBlock = some r → w.heap.size ≤ r := fun r hr => (own_lt HO.out r hr).1
      go_roundg (n - (i + 1))
      case measure => exact Nat.lt_of_lt_of_le (Nat.sub_lt_sub_left hlt (Nat.lt_succ_self i)) hkx
      case rel =>
        refine ⟨i + 1, acc ++ [k1, k2], v6, rfl, by first | (rw [HW1.out]; rfl) | rfl, hlt, Nat.le_refl _, by simp; omega, ?_, ?_, ?_⟩
        · apply hide
          rw [HTK.out, HA.out]
        · apply hide
          rw [iv_append, List.length_append]
          exact o6
        · refine HB.out.trans ⟨gA.os, gA.tape, gA.output, gA.size, fun i hi => gA.block i (by have := HB.out.size; omega) fun q => ?_⟩
          have h1 := hyb i q.symm
          omega
    · have hltz : ¬ (i : Int) < (n : Int) := by omega
      have kS := sortI_any wr w.heap.size x3 acc HO.out HB.out.size (by omega)
      go_wp2_with fail
      refine kS.mono ?_
      rintro ev w2 ⟨rfl, o2, b2⟩
      have HB2 : Hid (Below w.heap.size w w2) := HB.out.trans b2
      have kC := compI_any w2 w.heap.size x3 (srtI acc) o2 (by rw [srtI_length]; omega)
      clear kS o2 b2
      go_wp2_with fail
      refine kC.mono ?_
      rintro ev w3 ⟨v3', rfl, o3, b3⟩
      have H3 : Hid (OwJ w3 w.heap.size v3' (Lib.compact (srtI acc)) ∧ Below w.heap.size w w3) := ⟨o3, HB2.out.trans b3⟩
      clear kC o3 b3
      go_wp2_with fail
      go_ret
      have e1 : edL ks = Lib.compact (srtI acc) := by
        unfold edL
        rw [HA.out, List.take_of_length_le (by have := HN.out; omega)]
      rw [e1]
      exact ⟨_, rfl, H3.out.1, H3.out.2⟩
end Go.Proofs.Ytgbmigfamefenaa
