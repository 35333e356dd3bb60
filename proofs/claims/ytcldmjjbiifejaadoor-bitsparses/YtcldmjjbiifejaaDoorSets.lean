/- A set of rows in memory, and the contracts of made. -/
import Derived.Test.YtcldmjjbiifejaaDoorOnes
import Derived.Test.YtcldmjjbiifejaaDoorRefPack
import Derived.Deep.RegionWith
import Derived.Deep.QuietTactic
import Derived.Deep.DeepCutAuto
import Derived.WalkSmall
import Derived.BigQuiet
namespace Go.Proofs.YtcldmjjbiifejaaDoor
open Go.RowKit

/-- How many words. -/
def wn (n : Nat) : Nat := (n + 63) / 64
/-- A set of n rows: its struct in block B, its words in block g; X has the bits of the rows that are in. -/
structure ISet (w : World) (base : Nat) (p : Value) (n X B g : Nat) : Prop where
  ptr : p = .pointer (some ⟨B, 0, none⟩)
  ge : base ≤ B
  ne : B ≠ g
  rows : w.cell? ⟨B, 0, none⟩ = some (.int .i64 (n : Int))
  words : w.cell? ⟨B, 1, none⟩ = some (.slice (some ⟨g, 0, none⟩) (wn n) (wn n))
  own : w.ownsRow base 54 1 (.slice (some ⟨g, 0, none⟩) (wn n) (wn n)) (wn n) (nv .u64 (dg 64 (wn n) X))
  lt : X < 2 ^ n
  le : n ≤ 1048576

theorem ISet.below {w w' : World} {base n X B g : Nat} {p : Value} (h : ISet w base p n X B g) (hb : Below w.heap.size w w') : ISet w' base p n X B g := by
  have ho : Own w base 54 (.slice (some ⟨g, 0, none⟩) (wn n) (wn n)) (nv .u64 (dg 64 (wn n) X)) := by unfold Own; rw [nv_length, dg_length]; exact h.own
  have ho' := ho.below hb
  unfold Own at ho'
  rw [nv_length, dg_length] at ho'
  exact ⟨h.ptr, h.ge, h.ne, by rw [hb.cell (World.block_lt_of_cell? _ _ h.rows)]; exact h.rows, by rw [hb.cell (World.block_lt_of_cell? _ _ h.words)]; exact h.words, ho', h.lt, h.le⟩

/-- The words that a function tells, as one number without what lies beyond the rows. -/
def told (n : Nat) (W : Nat → Nat) : Nat := ofd 64 ((List.range (wn n)).map W) % 2 ^ n

theorem told_lt (n : Nat) (W : Nat → Nat) : told n W < 2 ^ n := Nat.mod_lt _ (Nat.two_pow_pos _)
theorem told_whole {n : Nat} {W : Nat → Nat} (hW : ∀ i, W i < 2 ^ 64) {xs : List Nat} (hx : xs.length = wn n) (h : ∀ i, i < wn n → xs.getD i 0 = W i) (ho : n % 64 = 0) : xs = dg 64 (wn n) (told n W) := by
  have e : xs = (List.range (wn n)).map W := by
    apply List.ext_getElem
    · simp [hx]
    · intro i h1 h2
      have := h i (by omega)
      simp [h1] at this
      simp [this]
  have hl : ∀ x ∈ xs, x < 2 ^ 64 := by rw [e]; intro x hx'; obtain ⟨i, _, rfl⟩ := List.mem_map.1 hx'; exact hW i
  unfold told
  rw [← e]
  have h1 := ofd_lt 64 xs hl
  have h2 := dg_ofd 64 xs hl
  have en : 64 * xs.length = n := by rw [hx]; unfold wn; omega
  rw [en] at h1
  rw [Nat.mod_eq_of_lt h1, ← hx, h2]
theorem told_cut {n : Nat} {W : Nat → Nat} (hW : ∀ i, W i < 2 ^ 64) {xs : List Nat} (hx : xs.length = wn n) (h : ∀ i, i < wn n → xs.getD i 0 = W i) (ho : 0 < n % 64) :
    xs.set (wn n - 1) (xs.getD (wn n - 1) 0 % 2 ^ (n % 64)) = dg 64 (wn n) (told n W) := by
  have e : xs = (List.range (wn n)).map W := by
    apply List.ext_getElem
    · simp [hx]
    · intro i h1 h2
      have := h i (by omega)
      simp [h1] at this
      simp [this]
  have hl : ∀ x ∈ xs, x < 2 ^ 64 := by rw [e]; intro x hx'; obtain ⟨i, _, rfl⟩ := List.mem_map.1 hx'; exact hW i
  have en : n = 64 * (wn n - 1) + n % 64 := by unfold wn; omega
  have hwn : 0 < wn n := by unfold wn; omega
  apply dg_ext
  · simp [hx]
  · intro i hi
    unfold told
    rw [← e, List.getD_eq_getElem?_getD, List.getElem?_set]
    have hd := ofd_getD 64 xs hl i (by omega)
    by_cases hik : wn n - 1 = i
    · subst hik
      rw [if_pos rfl, if_pos (by omega), ← hd]
      simp only [Option.getD_some]
      apply Nat.eq_of_testBit_eq
      intro j
      simp only [Nat.testBit_mod_two_pow, Nat.testBit_div_two_pow]
      by_cases hj : j < n % 64
      · have a1 : j < 64 := by omega
        have a2 : j + 64 * (wn n - 1) < n := by omega
        simp [hj, a1, a2]
      · have a2 : ¬ j + 64 * (wn n - 1) < n := by omega
        simp [hj, a2]
    · rw [if_neg hik, ← List.getD_eq_getElem?_getD, ← hd]
      apply Nat.eq_of_testBit_eq
      intro j
      simp only [Nat.testBit_mod_two_pow, Nat.testBit_div_two_pow]
      by_cases hj : j < 64
      · have a2 : j + 64 * i < n := by omega
        simp [hj, a2]
      · simp [hj]
theorem below_like {B : Nat} {a w w' : World} (h : Below B a w) (h1 : w'.os = w.os) (h2 : w'.tape = w.tape) (h3 : w'.output = w.output) (h4 : w'.heap = w.heap) : Below B a w' :=
  ⟨h1.trans h.os, h2.trans h.tape, h3.trans h.output, by rw [h4]; exact h.size, by rw [h4]; exact h.block⟩
theorem and_low (y o : Nat) (hy : y < 18446744073709551616) (ho : o < 64) : bits .and .u64 (y : Int) ((2 : Int) ^ o - 1) = ((y % 2 ^ o : Nat) : Int) := by
  have h1 := Nat.two_pow_pos o
  have h2 : 2 ^ o ≤ 2 ^ 63 := Nat.pow_le_pow_right (by decide) (by omega)
  have e : (2 : Int) ^ o - 1 = ((2 ^ o - 1 : Nat) : Int) := by
    have : ((2 ^ o : Nat) : Int) = (2 : Int) ^ o := by norm_cast
    rw [← this]; omega
  rw [e, u64_and_nat _ _ hy (by omega), Nat.and_two_pow_sub_one_eq_mod]

set_option maxHeartbeats 800000 in
theorem made_new (w : World) (n : Nat)  (W : Nat → Nat) (hn : n ≤ 1048576) (hW : ∀ i, W i < 2 ^ 64)
    (hf : ∀ w', Below w.heap.size w w' → ∀ i, i < wn n → Calls Tryd.prog 41 #[.int .i64 (i : Int)] w' fun e w'' => e = .returned (.int .u64 (W i : Int)) ∧ ∃ d, w'' = w'.drewN d) :
    Calls Tryd.prog 28 #[.int .i64 n, .func (.func 41) #[] #[]] w fun e w' => ∃ p B g, e = .returned p ∧ ISet w' w.heap.size p n (told n W) B g ∧ Below w.heap.size w w' := by
  obtain ⟨m, hm⟩ : ∃ m, m = wn n := ⟨_, rfl⟩
  have hmd : ((n : Int) + 64 - 1) / 64 = (m : Int) := by rw [hm]; unfold wn; omega
  have hml : m ≤ 16384 := by rw [hm]; unfold wn; omega
  obtain ⟨i0, hin, hz0, hz1, hz2⟩ := info_parts Tryd.info_u64
  have HM := hide hm
  clear hm
  go_enter Tryd.func28, Tryd.ntmps28
  go_wp2_with (first
    | (at_make; refine wpList_make_full _ rfl _ _ 51 rfl w.heap.size 54 i0 (.int .u64 0) 1 Tryd.underlying51 hin hz0 hz1 .i64 .i64 _ _ m rfl rfl (by omega) (by omega) (by rw [hz2]; omega) (by unfold maxLen; omega) (Nat.le_refl _) ?_; intro w0 hown0 hgrow0))
  have hb0 : Below w.heap.size w w0 := (Below.refl _ _).grown hgrow0 (Nat.le_refl _) (by simp)
  rw [made_nv _ _ 64] at hown0
  have hs0 : w.heap.size < w0.heap.size := (World.ownsRow.lt hown0 w.heap.size rfl).2
  obtain ⟨B, hB⟩ : ∃ B, B = w0.heap.size := ⟨_, rfl⟩
  rw [← hB]
  have HB := hide hB
  have hsB : w.heap.size < B := by omega
  clear hB
  go_loopw [21] (fun i wr => ∃ (k : Nat) (xs : List Nat), k ≤ m ∧ i = .int .i64 k ∧ wr.cell? ⟨B, 0, none⟩ = some (.int .i64 (n : Int)) ∧ wr.cell? ⟨B, 1, none⟩ = some (.slice (some ⟨w.heap.size, 0, none⟩) m m) ∧
      Hid (xs.length = m ∧ ∀ i, i < k → xs.getD i 0 = W i) ∧
      wr.ownsRow w.heap.size 54 1 (.slice (some ⟨w.heap.size, 0, none⟩) m m) m (nv .u64 xs) ∧ Below w.heap.size w wr) (fun i _ => m - (intOf i).toNat)
  case atStart =>
    refine ⟨0, _, by omega, rfl, ?_, ?_, hide ⟨dg_length 64 m 0, fun i hi => by omega⟩, hown0.alloc _, hb0.alloc (by omega) _⟩
    · rw [unhide HB, World.cell?_alloc_at _ _ _ _ rfl]; rfl
    · rw [unhide HB, World.cell?_alloc_at _ _ _ _ rfl]; rfl
  case round =>
    obtain ⟨k', xs, hk, rfl, hc0, hc1, HX, hown, hbel⟩ := hrel
    by_cases hlt : k' < m
    · have hlt' : (k' : Int) < (m : Int) := by omega
      have hcell : ∃ u, wr.cell? ⟨w.heap.size, k', none⟩ = some u :=
        ⟨_, (World.ownsRow.cellAt hown k' (by omega)).trans (nv_get .u64 xs k' (by rw [(unhide HX).1]; exact hlt))⟩
      obtain ⟨u, hcell⟩ := hcell
      have hfr := World.ownsRow.frozenAt hown k'
      have hWl := hW k'
      obtain ⟨y, hy⟩ : ∃ y, y = W k' := ⟨_, rfl⟩
      have hfk := fun w' hb => hf w' hb k' (by rw [← unhide HM]; exact hlt)
      rw [← hy] at hWl hfk
      have hyl : y < 18446744073709551616 := hWl
      have HY := hide hy
      clear hy hWl
      obtain ⟨s1, s2⟩ := World.ownsRow.stored hown k' (.int .u64 (y : Int))
      have HS1 := hide s1
      have HS2 := hide s2
      clear s1 s2
      go_wp2_with fail
      go_region_with (first | (go_at_call 41; refine (hfk _ (hbel.drew)).mono ?_; rintro e w' ⟨rfl, d, rfl⟩))
      all_goals
        go_wp2_with fail
        go_roundw
        case rel =>
          refine ⟨k' + 1, xs.set k' y, by omega, by go_num, (unhide HS2).cell hc0 (by simp; omega), (unhide HS2).cell hc1 (by simp; omega), hide ⟨by rw [List.length_set]; exact (unhide HX).1, ?_⟩, by rw [nv_set]; exact unhide HS1, below_like (hbel.grown (unhide HS2) hbel.size (by simp)) rfl rfl rfl rfl⟩
          intro i hi
          rw [List.getD_eq_getElem?_getD, List.getElem?_set]
          by_cases hik : k' = i
          · subst hik
            rw [if_pos rfl, if_pos (by rw [(unhide HX).1]; exact hlt), ← unhide HY]; rfl
          · rw [if_neg hik, ← List.getD_eq_getElem?_getD]
            exact (unhide HX).2 i (by omega)
        case measure => simp [intOf]; omega
    · have ek : k' = m := by omega
      subst ek
      by_cases ho : n % 64 = 0
      · have hoi : (n : Int) % 64 = 0 := by omega
        have ht := told_whole hW (xs := xs) (by rw [← unhide HM]; exact (unhide HX).1) (by rw [← unhide HM]; exact (unhide HX).2) ho
        clear ho
        go_wp2
        go_ret
        have HM' := unhide HM
        subst HM'
        exact ⟨_, _, _, rfl, ⟨rfl, by omega, by omega, hc0, hc1, by rw [← ht]; exact hown, told_lt _ _, hn⟩, hbel⟩
      · have ht := told_cut hW (xs := xs) (by rw [← unhide HM]; exact (unhide HX).1) (by rw [← unhide HM]; exact (unhide HX).2) (by omega)
        obtain ⟨o, hoe⟩ : ∃ o, o = n % 64 := ⟨_, rfl⟩
        have hoi : (n : Int) % 64 = (o : Int) := by omega
        have ho0 : (0 : Int) < (o : Int) := by omega
        have hol : o < 64 := by omega
        have hm1 : 0 < k' := by rw [unhide HM]; unfold wn; omega
        rw [← hoe, ← unhide HM] at ht
        have hxl : xs.getD (k' - 1) 0 < 18446744073709551616 := by
          rw [(unhide HX).2 (k' - 1) (by omega)]; exact hW _
        have hcell := (World.ownsRow.cellAt hown (k' - 1) (by omega)).trans (nv_get .u64 xs (k' - 1) (by rw [(unhide HX).1]; omega))
        have hfr := World.ownsRow.frozenAt hown (k' - 1)
        obtain ⟨y, hy⟩ : ∃ y, y = xs.getD (k' - 1) 0 := ⟨_, rfl⟩
        rw [← hy] at hxl hcell ht
        have hand := and_low y o hxl hol
        obtain ⟨pw, hpw⟩ : ∃ pw : Nat, pw = 2 ^ o := ⟨_, rfl⟩
        have hpi : (2 : Int) ^ o = (pw : Int) := by rw [hpw]; norm_cast
        have hp1 := Nat.two_pow_pos o
        have hp2 : 2 ^ o ≤ 2 ^ 63 := Nat.pow_le_pow_right (by decide) (by omega)
        rw [← hpw] at hp1 hp2
        have hp3 : pw ≤ 9223372036854775808 := by omega
        rw [hpi] at hand
        obtain ⟨z, hz⟩ : ∃ z, z = y % 2 ^ o := ⟨_, rfl⟩
        rw [← hz] at hand ht
        obtain ⟨s1, s2⟩ := World.ownsRow.stored hown (k' - 1) (.int .u64 (z : Int))
        have HS1 := hide s1
        have HS2 := hide s2
        have HT := hide ht
        obtain ⟨l, hl⟩ : ∃ l, l = k' - 1 := ⟨_, rfl⟩
        rw [← hl] at hcell hfr HS1 HS2 HT
        have el : (k' : Int) - 1 = (l : Int) := by omega
        have hll : (l : Int) < (k' : Int) := by omega
        have hll' : l < k' := by omega
        clear s1 s2 ht hz hy hpw hp2 hoe ho hl
        go_wp2_with fail
        go_region
        all_goals
          go_wp2
          go_ret
          have HM' := unhide HM
          subst HM'
          exact ⟨_, _, _, rfl, ⟨rfl, by omega, by omega, (unhide HS2).cell hc0 (by simp; omega), (unhide HS2).cell hc1 (by simp; omega), by rw [← unhide HT, nv_set]; exact unhide HS1, told_lt _ _, hn⟩, below_like (hbel.grown (unhide HS2) hbel.size (by simp)) rfl rfl rfl rfl⟩
set_option maxHeartbeats 800000 in
theorem made_full (w : World) (n : Nat)  (W : Nat → Nat) (hn : n ≤ 1048576) (hW : ∀ i, W i < 2 ^ 64)
    (hf : ∀ w', Below w.heap.size w w' → ∀ i, i < wn n → Calls Tryd.prog 33 #[.int .i64 (i : Int)] w' fun e w'' => e = .returned (.int .u64 (W i : Int)) ∧ ∃ d, w'' = w'.drewN d) :
    Calls Tryd.prog 28 #[.int .i64 n, .func (.func 33) #[] #[]] w fun e w' => ∃ p B g, e = .returned p ∧ ISet w' w.heap.size p n (told n W) B g ∧ Below w.heap.size w w' := by
  obtain ⟨m, hm⟩ : ∃ m, m = wn n := ⟨_, rfl⟩
  have hmd : ((n : Int) + 64 - 1) / 64 = (m : Int) := by rw [hm]; unfold wn; omega
  have hml : m ≤ 16384 := by rw [hm]; unfold wn; omega
  obtain ⟨i0, hin, hz0, hz1, hz2⟩ := info_parts Tryd.info_u64
  have HM := hide hm
  clear hm
  go_enter Tryd.func28, Tryd.ntmps28
  go_wp2_with (first
    | (at_make; refine wpList_make_full _ rfl _ _ 51 rfl w.heap.size 54 i0 (.int .u64 0) 1 Tryd.underlying51 hin hz0 hz1 .i64 .i64 _ _ m rfl rfl (by omega) (by omega) (by rw [hz2]; omega) (by unfold maxLen; omega) (Nat.le_refl _) ?_; intro w0 hown0 hgrow0))
  have hb0 : Below w.heap.size w w0 := (Below.refl _ _).grown hgrow0 (Nat.le_refl _) (by simp)
  rw [made_nv _ _ 64] at hown0
  have hs0 : w.heap.size < w0.heap.size := (World.ownsRow.lt hown0 w.heap.size rfl).2
  obtain ⟨B, hB⟩ : ∃ B, B = w0.heap.size := ⟨_, rfl⟩
  rw [← hB]
  have HB := hide hB
  have hsB : w.heap.size < B := by omega
  clear hB
  go_loopw [21] (fun i wr => ∃ (k : Nat) (xs : List Nat), k ≤ m ∧ i = .int .i64 k ∧ wr.cell? ⟨B, 0, none⟩ = some (.int .i64 (n : Int)) ∧ wr.cell? ⟨B, 1, none⟩ = some (.slice (some ⟨w.heap.size, 0, none⟩) m m) ∧
      Hid (xs.length = m ∧ ∀ i, i < k → xs.getD i 0 = W i) ∧
      wr.ownsRow w.heap.size 54 1 (.slice (some ⟨w.heap.size, 0, none⟩) m m) m (nv .u64 xs) ∧ Below w.heap.size w wr) (fun i _ => m - (intOf i).toNat)
  case atStart =>
    refine ⟨0, _, by omega, rfl, ?_, ?_, hide ⟨dg_length 64 m 0, fun i hi => by omega⟩, hown0.alloc _, hb0.alloc (by omega) _⟩
    · rw [unhide HB, World.cell?_alloc_at _ _ _ _ rfl]; rfl
    · rw [unhide HB, World.cell?_alloc_at _ _ _ _ rfl]; rfl
  case round =>
    obtain ⟨k', xs, hk, rfl, hc0, hc1, HX, hown, hbel⟩ := hrel
    by_cases hlt : k' < m
    · have hlt' : (k' : Int) < (m : Int) := by omega
      have hcell : ∃ u, wr.cell? ⟨w.heap.size, k', none⟩ = some u :=
        ⟨_, (World.ownsRow.cellAt hown k' (by omega)).trans (nv_get .u64 xs k' (by rw [(unhide HX).1]; exact hlt))⟩
      obtain ⟨u, hcell⟩ := hcell
      have hfr := World.ownsRow.frozenAt hown k'
      have hWl := hW k'
      obtain ⟨y, hy⟩ : ∃ y, y = W k' := ⟨_, rfl⟩
      have hfk := fun w' hb => hf w' hb k' (by rw [← unhide HM]; exact hlt)
      rw [← hy] at hWl hfk
      have hyl : y < 18446744073709551616 := hWl
      have HY := hide hy
      clear hy hWl
      obtain ⟨s1, s2⟩ := World.ownsRow.stored hown k' (.int .u64 (y : Int))
      have HS1 := hide s1
      have HS2 := hide s2
      clear s1 s2
      go_wp2_with fail
      go_region_with (first | (go_at_call 33; refine (hfk _ (hbel.drew)).mono ?_; rintro e w' ⟨rfl, d, rfl⟩))
      all_goals
        go_wp2_with fail
        go_roundw
        case rel =>
          refine ⟨k' + 1, xs.set k' y, by omega, by go_num, (unhide HS2).cell hc0 (by simp; omega), (unhide HS2).cell hc1 (by simp; omega), hide ⟨by rw [List.length_set]; exact (unhide HX).1, ?_⟩, by rw [nv_set]; exact unhide HS1, below_like (hbel.grown (unhide HS2) hbel.size (by simp)) rfl rfl rfl rfl⟩
          intro i hi
          rw [List.getD_eq_getElem?_getD, List.getElem?_set]
          by_cases hik : k' = i
          · subst hik
            rw [if_pos rfl, if_pos (by rw [(unhide HX).1]; exact hlt), ← unhide HY]; rfl
          · rw [if_neg hik, ← List.getD_eq_getElem?_getD]
            exact (unhide HX).2 i (by omega)
        case measure => simp [intOf]; omega
    · have ek : k' = m := by omega
      subst ek
      by_cases ho : n % 64 = 0
      · have hoi : (n : Int) % 64 = 0 := by omega
        have ht := told_whole hW (xs := xs) (by rw [← unhide HM]; exact (unhide HX).1) (by rw [← unhide HM]; exact (unhide HX).2) ho
        clear ho
        go_wp2
        go_ret
        have HM' := unhide HM
        subst HM'
        exact ⟨_, _, _, rfl, ⟨rfl, by omega, by omega, hc0, hc1, by rw [← ht]; exact hown, told_lt _ _, hn⟩, hbel⟩
      · have ht := told_cut hW (xs := xs) (by rw [← unhide HM]; exact (unhide HX).1) (by rw [← unhide HM]; exact (unhide HX).2) (by omega)
        obtain ⟨o, hoe⟩ : ∃ o, o = n % 64 := ⟨_, rfl⟩
        have hoi : (n : Int) % 64 = (o : Int) := by omega
        have ho0 : (0 : Int) < (o : Int) := by omega
        have hol : o < 64 := by omega
        have hm1 : 0 < k' := by rw [unhide HM]; unfold wn; omega
        rw [← hoe, ← unhide HM] at ht
        have hxl : xs.getD (k' - 1) 0 < 18446744073709551616 := by
          rw [(unhide HX).2 (k' - 1) (by omega)]; exact hW _
        have hcell := (World.ownsRow.cellAt hown (k' - 1) (by omega)).trans (nv_get .u64 xs (k' - 1) (by rw [(unhide HX).1]; omega))
        have hfr := World.ownsRow.frozenAt hown (k' - 1)
        obtain ⟨y, hy⟩ : ∃ y, y = xs.getD (k' - 1) 0 := ⟨_, rfl⟩
        rw [← hy] at hxl hcell ht
        have hand := and_low y o hxl hol
        obtain ⟨pw, hpw⟩ : ∃ pw : Nat, pw = 2 ^ o := ⟨_, rfl⟩
        have hpi : (2 : Int) ^ o = (pw : Int) := by rw [hpw]; norm_cast
        have hp1 := Nat.two_pow_pos o
        have hp2 : 2 ^ o ≤ 2 ^ 63 := Nat.pow_le_pow_right (by decide) (by omega)
        rw [← hpw] at hp1 hp2
        have hp3 : pw ≤ 9223372036854775808 := by omega
        rw [hpi] at hand
        obtain ⟨z, hz⟩ : ∃ z, z = y % 2 ^ o := ⟨_, rfl⟩
        rw [← hz] at hand ht
        obtain ⟨s1, s2⟩ := World.ownsRow.stored hown (k' - 1) (.int .u64 (z : Int))
        have HS1 := hide s1
        have HS2 := hide s2
        have HT := hide ht
        obtain ⟨l, hl⟩ : ∃ l, l = k' - 1 := ⟨_, rfl⟩
        rw [← hl] at hcell hfr HS1 HS2 HT
        have el : (k' : Int) - 1 = (l : Int) := by omega
        have hll : (l : Int) < (k' : Int) := by omega
        have hll' : l < k' := by omega
        clear s1 s2 ht hz hy hpw hp2 hoe ho hl
        go_wp2_with fail
        go_region
        all_goals
          go_wp2
          go_ret
          have HM' := unhide HM
          subst HM'
          exact ⟨_, _, _, rfl, ⟨rfl, by omega, by omega, (unhide HS2).cell hc0 (by simp; omega), (unhide HS2).cell hc1 (by simp; omega), by rw [← unhide HT, nv_set]; exact unhide HS1, told_lt _ _, hn⟩, below_like (hbel.grown (unhide HS2) hbel.size (by simp)) rfl rfl rfl rfl⟩
set_option maxHeartbeats 800000 in
theorem made_and (w : World) (n : Nat) (c1 c2 : Value) (W : Nat → Nat) (hn : n ≤ 1048576) (hW : ∀ i, W i < 2 ^ 64)
    (hf : ∀ w', Below w.heap.size w w' → ∀ i, i < wn n → Calls Tryd.prog 29 #[.int .i64 (i : Int), c1, c2] w' fun e w'' => e = .returned (.int .u64 (W i : Int)) ∧ ∃ d, w'' = w'.drewN d) :
    Calls Tryd.prog 28 #[.int .i64 n, .func (.func 29) #[] #[c1, c2]] w fun e w' => ∃ p B g, e = .returned p ∧ ISet w' w.heap.size p n (told n W) B g ∧ Below w.heap.size w w' := by
  obtain ⟨m, hm⟩ : ∃ m, m = wn n := ⟨_, rfl⟩
  have hmd : ((n : Int) + 64 - 1) / 64 = (m : Int) := by rw [hm]; unfold wn; omega
  have hml : m ≤ 16384 := by rw [hm]; unfold wn; omega
  obtain ⟨i0, hin, hz0, hz1, hz2⟩ := info_parts Tryd.info_u64
  have HM := hide hm
  clear hm
  go_enter Tryd.func28, Tryd.ntmps28
  go_wp2_with (first
    | (at_make; refine wpList_make_full _ rfl _ _ 51 rfl w.heap.size 54 i0 (.int .u64 0) 1 Tryd.underlying51 hin hz0 hz1 .i64 .i64 _ _ m rfl rfl (by omega) (by omega) (by rw [hz2]; omega) (by unfold maxLen; omega) (Nat.le_refl _) ?_; intro w0 hown0 hgrow0))
  have hb0 : Below w.heap.size w w0 := (Below.refl _ _).grown hgrow0 (Nat.le_refl _) (by simp)
  rw [made_nv _ _ 64] at hown0
  have hs0 : w.heap.size < w0.heap.size := (World.ownsRow.lt hown0 w.heap.size rfl).2
  obtain ⟨B, hB⟩ : ∃ B, B = w0.heap.size := ⟨_, rfl⟩
  rw [← hB]
  have HB := hide hB
  have hsB : w.heap.size < B := by omega
  clear hB
  go_loopw [21] (fun i wr => ∃ (k : Nat) (xs : List Nat), k ≤ m ∧ i = .int .i64 k ∧ wr.cell? ⟨B, 0, none⟩ = some (.int .i64 (n : Int)) ∧ wr.cell? ⟨B, 1, none⟩ = some (.slice (some ⟨w.heap.size, 0, none⟩) m m) ∧
      Hid (xs.length = m ∧ ∀ i, i < k → xs.getD i 0 = W i) ∧
      wr.ownsRow w.heap.size 54 1 (.slice (some ⟨w.heap.size, 0, none⟩) m m) m (nv .u64 xs) ∧ Below w.heap.size w wr) (fun i _ => m - (intOf i).toNat)
  case atStart =>
    refine ⟨0, _, by omega, rfl, ?_, ?_, hide ⟨dg_length 64 m 0, fun i hi => by omega⟩, hown0.alloc _, hb0.alloc (by omega) _⟩
    · rw [unhide HB, World.cell?_alloc_at _ _ _ _ rfl]; rfl
    · rw [unhide HB, World.cell?_alloc_at _ _ _ _ rfl]; rfl
  case round =>
    obtain ⟨k', xs, hk, rfl, hc0, hc1, HX, hown, hbel⟩ := hrel
    by_cases hlt : k' < m
    · have hlt' : (k' : Int) < (m : Int) := by omega
      have hcell : ∃ u, wr.cell? ⟨w.heap.size, k', none⟩ = some u :=
        ⟨_, (World.ownsRow.cellAt hown k' (by omega)).trans (nv_get .u64 xs k' (by rw [(unhide HX).1]; exact hlt))⟩
      obtain ⟨u, hcell⟩ := hcell
      have hfr := World.ownsRow.frozenAt hown k'
      have hWl := hW k'
      obtain ⟨y, hy⟩ : ∃ y, y = W k' := ⟨_, rfl⟩
      have hfk := fun w' hb => hf w' hb k' (by rw [← unhide HM]; exact hlt)
      rw [← hy] at hWl hfk
      have hyl : y < 18446744073709551616 := hWl
      have HY := hide hy
      clear hy hWl
      obtain ⟨s1, s2⟩ := World.ownsRow.stored hown k' (.int .u64 (y : Int))
      have HS1 := hide s1
      have HS2 := hide s2
      clear s1 s2
      go_wp2_with fail
      go_region_with (first | (go_at_call 29; refine (hfk _ (hbel.drew)).mono ?_; rintro e w' ⟨rfl, d, rfl⟩))
      all_goals
        go_wp2_with fail
        go_roundw
        case rel =>
          refine ⟨k' + 1, xs.set k' y, by omega, by go_num, (unhide HS2).cell hc0 (by simp; omega), (unhide HS2).cell hc1 (by simp; omega), hide ⟨by rw [List.length_set]; exact (unhide HX).1, ?_⟩, by rw [nv_set]; exact unhide HS1, below_like (hbel.grown (unhide HS2) hbel.size (by simp)) rfl rfl rfl rfl⟩
          intro i hi
          rw [List.getD_eq_getElem?_getD, List.getElem?_set]
          by_cases hik : k' = i
          · subst hik
            rw [if_pos rfl, if_pos (by rw [(unhide HX).1]; exact hlt), ← unhide HY]; rfl
          · rw [if_neg hik, ← List.getD_eq_getElem?_getD]
            exact (unhide HX).2 i (by omega)
        case measure => simp [intOf]; omega
    · have ek : k' = m := by omega
      subst ek
      by_cases ho : n % 64 = 0
      · have hoi : (n : Int) % 64 = 0 := by omega
        have ht := told_whole hW (xs := xs) (by rw [← unhide HM]; exact (unhide HX).1) (by rw [← unhide HM]; exact (unhide HX).2) ho
        clear ho
        go_wp2
        go_ret
        have HM' := unhide HM
        subst HM'
        exact ⟨_, _, _, rfl, ⟨rfl, by omega, by omega, hc0, hc1, by rw [← ht]; exact hown, told_lt _ _, hn⟩, hbel⟩
      · have ht := told_cut hW (xs := xs) (by rw [← unhide HM]; exact (unhide HX).1) (by rw [← unhide HM]; exact (unhide HX).2) (by omega)
        obtain ⟨o, hoe⟩ : ∃ o, o = n % 64 := ⟨_, rfl⟩
        have hoi : (n : Int) % 64 = (o : Int) := by omega
        have ho0 : (0 : Int) < (o : Int) := by omega
        have hol : o < 64 := by omega
        have hm1 : 0 < k' := by rw [unhide HM]; unfold wn; omega
        rw [← hoe, ← unhide HM] at ht
        have hxl : xs.getD (k' - 1) 0 < 18446744073709551616 := by
          rw [(unhide HX).2 (k' - 1) (by omega)]; exact hW _
        have hcell := (World.ownsRow.cellAt hown (k' - 1) (by omega)).trans (nv_get .u64 xs (k' - 1) (by rw [(unhide HX).1]; omega))
        have hfr := World.ownsRow.frozenAt hown (k' - 1)
        obtain ⟨y, hy⟩ : ∃ y, y = xs.getD (k' - 1) 0 := ⟨_, rfl⟩
        rw [← hy] at hxl hcell ht
        have hand := and_low y o hxl hol
        obtain ⟨pw, hpw⟩ : ∃ pw : Nat, pw = 2 ^ o := ⟨_, rfl⟩
        have hpi : (2 : Int) ^ o = (pw : Int) := by rw [hpw]; norm_cast
        have hp1 := Nat.two_pow_pos o
        have hp2 : 2 ^ o ≤ 2 ^ 63 := Nat.pow_le_pow_right (by decide) (by omega)
        rw [← hpw] at hp1 hp2
        have hp3 : pw ≤ 9223372036854775808 := by omega
        rw [hpi] at hand
        obtain ⟨z, hz⟩ : ∃ z, z = y % 2 ^ o := ⟨_, rfl⟩
        rw [← hz] at hand ht
        obtain ⟨s1, s2⟩ := World.ownsRow.stored hown (k' - 1) (.int .u64 (z : Int))
        have HS1 := hide s1
        have HS2 := hide s2
        have HT := hide ht
        obtain ⟨l, hl⟩ : ∃ l, l = k' - 1 := ⟨_, rfl⟩
        rw [← hl] at hcell hfr HS1 HS2 HT
        have el : (k' : Int) - 1 = (l : Int) := by omega
        have hll : (l : Int) < (k' : Int) := by omega
        have hll' : l < k' := by omega
        clear s1 s2 ht hz hy hpw hp2 hoe ho hl
        go_wp2_with fail
        go_region
        all_goals
          go_wp2
          go_ret
          have HM' := unhide HM
          subst HM'
          exact ⟨_, _, _, rfl, ⟨rfl, by omega, by omega, (unhide HS2).cell hc0 (by simp; omega), (unhide HS2).cell hc1 (by simp; omega), by rw [← unhide HT, nv_set]; exact unhide HS1, told_lt _ _, hn⟩, below_like (hbel.grown (unhide HS2) hbel.size (by simp)) rfl rfl rfl rfl⟩
set_option maxHeartbeats 800000 in
theorem made_or (w : World) (n : Nat) (c1 c2 : Value) (W : Nat → Nat) (hn : n ≤ 1048576) (hW : ∀ i, W i < 2 ^ 64)
    (hf : ∀ w', Below w.heap.size w w' → ∀ i, i < wn n → Calls Tryd.prog 30 #[.int .i64 (i : Int), c1, c2] w' fun e w'' => e = .returned (.int .u64 (W i : Int)) ∧ ∃ d, w'' = w'.drewN d) :
    Calls Tryd.prog 28 #[.int .i64 n, .func (.func 30) #[] #[c1, c2]] w fun e w' => ∃ p B g, e = .returned p ∧ ISet w' w.heap.size p n (told n W) B g ∧ Below w.heap.size w w' := by
  obtain ⟨m, hm⟩ : ∃ m, m = wn n := ⟨_, rfl⟩
  have hmd : ((n : Int) + 64 - 1) / 64 = (m : Int) := by rw [hm]; unfold wn; omega
  have hml : m ≤ 16384 := by rw [hm]; unfold wn; omega
  obtain ⟨i0, hin, hz0, hz1, hz2⟩ := info_parts Tryd.info_u64
  have HM := hide hm
  clear hm
  go_enter Tryd.func28, Tryd.ntmps28
  go_wp2_with (first
    | (at_make; refine wpList_make_full _ rfl _ _ 51 rfl w.heap.size 54 i0 (.int .u64 0) 1 Tryd.underlying51 hin hz0 hz1 .i64 .i64 _ _ m rfl rfl (by omega) (by omega) (by rw [hz2]; omega) (by unfold maxLen; omega) (Nat.le_refl _) ?_; intro w0 hown0 hgrow0))
  have hb0 : Below w.heap.size w w0 := (Below.refl _ _).grown hgrow0 (Nat.le_refl _) (by simp)
  rw [made_nv _ _ 64] at hown0
  have hs0 : w.heap.size < w0.heap.size := (World.ownsRow.lt hown0 w.heap.size rfl).2
  obtain ⟨B, hB⟩ : ∃ B, B = w0.heap.size := ⟨_, rfl⟩
  rw [← hB]
  have HB := hide hB
  have hsB : w.heap.size < B := by omega
  clear hB
  go_loopw [21] (fun i wr => ∃ (k : Nat) (xs : List Nat), k ≤ m ∧ i = .int .i64 k ∧ wr.cell? ⟨B, 0, none⟩ = some (.int .i64 (n : Int)) ∧ wr.cell? ⟨B, 1, none⟩ = some (.slice (some ⟨w.heap.size, 0, none⟩) m m) ∧
      Hid (xs.length = m ∧ ∀ i, i < k → xs.getD i 0 = W i) ∧
      wr.ownsRow w.heap.size 54 1 (.slice (some ⟨w.heap.size, 0, none⟩) m m) m (nv .u64 xs) ∧ Below w.heap.size w wr) (fun i _ => m - (intOf i).toNat)
  case atStart =>
    refine ⟨0, _, by omega, rfl, ?_, ?_, hide ⟨dg_length 64 m 0, fun i hi => by omega⟩, hown0.alloc _, hb0.alloc (by omega) _⟩
    · rw [unhide HB, World.cell?_alloc_at _ _ _ _ rfl]; rfl
    · rw [unhide HB, World.cell?_alloc_at _ _ _ _ rfl]; rfl
  case round =>
    obtain ⟨k', xs, hk, rfl, hc0, hc1, HX, hown, hbel⟩ := hrel
    by_cases hlt : k' < m
    · have hlt' : (k' : Int) < (m : Int) := by omega
      have hcell : ∃ u, wr.cell? ⟨w.heap.size, k', none⟩ = some u :=
        ⟨_, (World.ownsRow.cellAt hown k' (by omega)).trans (nv_get .u64 xs k' (by rw [(unhide HX).1]; exact hlt))⟩
      obtain ⟨u, hcell⟩ := hcell
      have hfr := World.ownsRow.frozenAt hown k'
      have hWl := hW k'
      obtain ⟨y, hy⟩ : ∃ y, y = W k' := ⟨_, rfl⟩
      have hfk := fun w' hb => hf w' hb k' (by rw [← unhide HM]; exact hlt)
      rw [← hy] at hWl hfk
      have hyl : y < 18446744073709551616 := hWl
      have HY := hide hy
      clear hy hWl
      obtain ⟨s1, s2⟩ := World.ownsRow.stored hown k' (.int .u64 (y : Int))
      have HS1 := hide s1
      have HS2 := hide s2
      clear s1 s2
      go_wp2_with fail
      go_region_with (first | (go_at_call 30; refine (hfk _ (hbel.drew)).mono ?_; rintro e w' ⟨rfl, d, rfl⟩))
      all_goals
        go_wp2_with fail
        go_roundw
        case rel =>
          refine ⟨k' + 1, xs.set k' y, by omega, by go_num, (unhide HS2).cell hc0 (by simp; omega), (unhide HS2).cell hc1 (by simp; omega), hide ⟨by rw [List.length_set]; exact (unhide HX).1, ?_⟩, by rw [nv_set]; exact unhide HS1, below_like (hbel.grown (unhide HS2) hbel.size (by simp)) rfl rfl rfl rfl⟩
          intro i hi
          rw [List.getD_eq_getElem?_getD, List.getElem?_set]
          by_cases hik : k' = i
          · subst hik
            rw [if_pos rfl, if_pos (by rw [(unhide HX).1]; exact hlt), ← unhide HY]; rfl
          · rw [if_neg hik, ← List.getD_eq_getElem?_getD]
            exact (unhide HX).2 i (by omega)
        case measure => simp [intOf]; omega
    · have ek : k' = m := by omega
      subst ek
      by_cases ho : n % 64 = 0
      · have hoi : (n : Int) % 64 = 0 := by omega
        have ht := told_whole hW (xs := xs) (by rw [← unhide HM]; exact (unhide HX).1) (by rw [← unhide HM]; exact (unhide HX).2) ho
        clear ho
        go_wp2
        go_ret
        have HM' := unhide HM
        subst HM'
        exact ⟨_, _, _, rfl, ⟨rfl, by omega, by omega, hc0, hc1, by rw [← ht]; exact hown, told_lt _ _, hn⟩, hbel⟩
      · have ht := told_cut hW (xs := xs) (by rw [← unhide HM]; exact (unhide HX).1) (by rw [← unhide HM]; exact (unhide HX).2) (by omega)
        obtain ⟨o, hoe⟩ : ∃ o, o = n % 64 := ⟨_, rfl⟩
        have hoi : (n : Int) % 64 = (o : Int) := by omega
        have ho0 : (0 : Int) < (o : Int) := by omega
        have hol : o < 64 := by omega
        have hm1 : 0 < k' := by rw [unhide HM]; unfold wn; omega
        rw [← hoe, ← unhide HM] at ht
        have hxl : xs.getD (k' - 1) 0 < 18446744073709551616 := by
          rw [(unhide HX).2 (k' - 1) (by omega)]; exact hW _
        have hcell := (World.ownsRow.cellAt hown (k' - 1) (by omega)).trans (nv_get .u64 xs (k' - 1) (by rw [(unhide HX).1]; omega))
        have hfr := World.ownsRow.frozenAt hown (k' - 1)
        obtain ⟨y, hy⟩ : ∃ y, y = xs.getD (k' - 1) 0 := ⟨_, rfl⟩
        rw [← hy] at hxl hcell ht
        have hand := and_low y o hxl hol
        obtain ⟨pw, hpw⟩ : ∃ pw : Nat, pw = 2 ^ o := ⟨_, rfl⟩
        have hpi : (2 : Int) ^ o = (pw : Int) := by rw [hpw]; norm_cast
        have hp1 := Nat.two_pow_pos o
        have hp2 : 2 ^ o ≤ 2 ^ 63 := Nat.pow_le_pow_right (by decide) (by omega)
        rw [← hpw] at hp1 hp2
        have hp3 : pw ≤ 9223372036854775808 := by omega
        rw [hpi] at hand
        obtain ⟨z, hz⟩ : ∃ z, z = y % 2 ^ o := ⟨_, rfl⟩
        rw [← hz] at hand ht
        obtain ⟨s1, s2⟩ := World.ownsRow.stored hown (k' - 1) (.int .u64 (z : Int))
        have HS1 := hide s1
        have HS2 := hide s2
        have HT := hide ht
        obtain ⟨l, hl⟩ : ∃ l, l = k' - 1 := ⟨_, rfl⟩
        rw [← hl] at hcell hfr HS1 HS2 HT
        have el : (k' : Int) - 1 = (l : Int) := by omega
        have hll : (l : Int) < (k' : Int) := by omega
        have hll' : l < k' := by omega
        clear s1 s2 ht hz hy hpw hp2 hoe ho hl
        go_wp2_with fail
        go_region
        all_goals
          go_wp2
          go_ret
          have HM' := unhide HM
          subst HM'
          exact ⟨_, _, _, rfl, ⟨rfl, by omega, by omega, (unhide HS2).cell hc0 (by simp; omega), (unhide HS2).cell hc1 (by simp; omega), by rw [← unhide HT, nv_set]; exact unhide HS1, told_lt _ _, hn⟩, below_like (hbel.grown (unhide HS2) hbel.size (by simp)) rfl rfl rfl rfl⟩
set_option maxHeartbeats 800000 in
theorem made_not (w : World) (n : Nat) (c1 : Value) (W : Nat → Nat) (hn : n ≤ 1048576) (hW : ∀ i, W i < 2 ^ 64)
    (hf : ∀ w', Below w.heap.size w w' → ∀ i, i < wn n → Calls Tryd.prog 31 #[.int .i64 (i : Int), c1] w' fun e w'' => e = .returned (.int .u64 (W i : Int)) ∧ ∃ d, w'' = w'.drewN d) :
    Calls Tryd.prog 28 #[.int .i64 n, .func (.func 31) #[] #[c1]] w fun e w' => ∃ p B g, e = .returned p ∧ ISet w' w.heap.size p n (told n W) B g ∧ Below w.heap.size w w' := by
  obtain ⟨m, hm⟩ : ∃ m, m = wn n := ⟨_, rfl⟩
  have hmd : ((n : Int) + 64 - 1) / 64 = (m : Int) := by rw [hm]; unfold wn; omega
  have hml : m ≤ 16384 := by rw [hm]; unfold wn; omega
  obtain ⟨i0, hin, hz0, hz1, hz2⟩ := info_parts Tryd.info_u64
  have HM := hide hm
  clear hm
  go_enter Tryd.func28, Tryd.ntmps28
  go_wp2_with (first
    | (at_make; refine wpList_make_full _ rfl _ _ 51 rfl w.heap.size 54 i0 (.int .u64 0) 1 Tryd.underlying51 hin hz0 hz1 .i64 .i64 _ _ m rfl rfl (by omega) (by omega) (by rw [hz2]; omega) (by unfold maxLen; omega) (Nat.le_refl _) ?_; intro w0 hown0 hgrow0))
  have hb0 : Below w.heap.size w w0 := (Below.refl _ _).grown hgrow0 (Nat.le_refl _) (by simp)
  rw [made_nv _ _ 64] at hown0
  have hs0 : w.heap.size < w0.heap.size := (World.ownsRow.lt hown0 w.heap.size rfl).2
  obtain ⟨B, hB⟩ : ∃ B, B = w0.heap.size := ⟨_, rfl⟩
  rw [← hB]
  have HB := hide hB
  have hsB : w.heap.size < B := by omega
  clear hB
  go_loopw [21] (fun i wr => ∃ (k : Nat) (xs : List Nat), k ≤ m ∧ i = .int .i64 k ∧ wr.cell? ⟨B, 0, none⟩ = some (.int .i64 (n : Int)) ∧ wr.cell? ⟨B, 1, none⟩ = some (.slice (some ⟨w.heap.size, 0, none⟩) m m) ∧
      Hid (xs.length = m ∧ ∀ i, i < k → xs.getD i 0 = W i) ∧
      wr.ownsRow w.heap.size 54 1 (.slice (some ⟨w.heap.size, 0, none⟩) m m) m (nv .u64 xs) ∧ Below w.heap.size w wr) (fun i _ => m - (intOf i).toNat)
  case atStart =>
    refine ⟨0, _, by omega, rfl, ?_, ?_, hide ⟨dg_length 64 m 0, fun i hi => by omega⟩, hown0.alloc _, hb0.alloc (by omega) _⟩
    · rw [unhide HB, World.cell?_alloc_at _ _ _ _ rfl]; rfl
    · rw [unhide HB, World.cell?_alloc_at _ _ _ _ rfl]; rfl
  case round =>
    obtain ⟨k', xs, hk, rfl, hc0, hc1, HX, hown, hbel⟩ := hrel
    by_cases hlt : k' < m
    · have hlt' : (k' : Int) < (m : Int) := by omega
      have hcell : ∃ u, wr.cell? ⟨w.heap.size, k', none⟩ = some u :=
        ⟨_, (World.ownsRow.cellAt hown k' (by omega)).trans (nv_get .u64 xs k' (by rw [(unhide HX).1]; exact hlt))⟩
      obtain ⟨u, hcell⟩ := hcell
      have hfr := World.ownsRow.frozenAt hown k'
      have hWl := hW k'
      obtain ⟨y, hy⟩ : ∃ y, y = W k' := ⟨_, rfl⟩
      have hfk := fun w' hb => hf w' hb k' (by rw [← unhide HM]; exact hlt)
      rw [← hy] at hWl hfk
      have hyl : y < 18446744073709551616 := hWl
      have HY := hide hy
      clear hy hWl
      obtain ⟨s1, s2⟩ := World.ownsRow.stored hown k' (.int .u64 (y : Int))
      have HS1 := hide s1
      have HS2 := hide s2
      clear s1 s2
      go_wp2_with fail
      go_region_with (first | (go_at_call 31; refine (hfk _ (hbel.drew)).mono ?_; rintro e w' ⟨rfl, d, rfl⟩))
      all_goals
        go_wp2_with fail
        go_roundw
        case rel =>
          refine ⟨k' + 1, xs.set k' y, by omega, by go_num, (unhide HS2).cell hc0 (by simp; omega), (unhide HS2).cell hc1 (by simp; omega), hide ⟨by rw [List.length_set]; exact (unhide HX).1, ?_⟩, by rw [nv_set]; exact unhide HS1, below_like (hbel.grown (unhide HS2) hbel.size (by simp)) rfl rfl rfl rfl⟩
          intro i hi
          rw [List.getD_eq_getElem?_getD, List.getElem?_set]
          by_cases hik : k' = i
          · subst hik
            rw [if_pos rfl, if_pos (by rw [(unhide HX).1]; exact hlt), ← unhide HY]; rfl
          · rw [if_neg hik, ← List.getD_eq_getElem?_getD]
            exact (unhide HX).2 i (by omega)
        case measure => simp [intOf]; omega
    · have ek : k' = m := by omega
      subst ek
      by_cases ho : n % 64 = 0
      · have hoi : (n : Int) % 64 = 0 := by omega
        have ht := told_whole hW (xs := xs) (by rw [← unhide HM]; exact (unhide HX).1) (by rw [← unhide HM]; exact (unhide HX).2) ho
        clear ho
        go_wp2
        go_ret
        have HM' := unhide HM
        subst HM'
        exact ⟨_, _, _, rfl, ⟨rfl, by omega, by omega, hc0, hc1, by rw [← ht]; exact hown, told_lt _ _, hn⟩, hbel⟩
      · have ht := told_cut hW (xs := xs) (by rw [← unhide HM]; exact (unhide HX).1) (by rw [← unhide HM]; exact (unhide HX).2) (by omega)
        obtain ⟨o, hoe⟩ : ∃ o, o = n % 64 := ⟨_, rfl⟩
        have hoi : (n : Int) % 64 = (o : Int) := by omega
        have ho0 : (0 : Int) < (o : Int) := by omega
        have hol : o < 64 := by omega
        have hm1 : 0 < k' := by rw [unhide HM]; unfold wn; omega
        rw [← hoe, ← unhide HM] at ht
        have hxl : xs.getD (k' - 1) 0 < 18446744073709551616 := by
          rw [(unhide HX).2 (k' - 1) (by omega)]; exact hW _
        have hcell := (World.ownsRow.cellAt hown (k' - 1) (by omega)).trans (nv_get .u64 xs (k' - 1) (by rw [(unhide HX).1]; omega))
        have hfr := World.ownsRow.frozenAt hown (k' - 1)
        obtain ⟨y, hy⟩ : ∃ y, y = xs.getD (k' - 1) 0 := ⟨_, rfl⟩
        rw [← hy] at hxl hcell ht
        have hand := and_low y o hxl hol
        obtain ⟨pw, hpw⟩ : ∃ pw : Nat, pw = 2 ^ o := ⟨_, rfl⟩
        have hpi : (2 : Int) ^ o = (pw : Int) := by rw [hpw]; norm_cast
        have hp1 := Nat.two_pow_pos o
        have hp2 : 2 ^ o ≤ 2 ^ 63 := Nat.pow_le_pow_right (by decide) (by omega)
        rw [← hpw] at hp1 hp2
        have hp3 : pw ≤ 9223372036854775808 := by omega
        rw [hpi] at hand
        obtain ⟨z, hz⟩ : ∃ z, z = y % 2 ^ o := ⟨_, rfl⟩
        rw [← hz] at hand ht
        obtain ⟨s1, s2⟩ := World.ownsRow.stored hown (k' - 1) (.int .u64 (z : Int))
        have HS1 := hide s1
        have HS2 := hide s2
        have HT := hide ht
        obtain ⟨l, hl⟩ : ∃ l, l = k' - 1 := ⟨_, rfl⟩
        rw [← hl] at hcell hfr HS1 HS2 HT
        have el : (k' : Int) - 1 = (l : Int) := by omega
        have hll : (l : Int) < (k' : Int) := by omega
        have hll' : l < k' := by omega
        clear s1 s2 ht hz hy hpw hp2 hoe ho hl
        go_wp2_with fail
        go_region
        all_goals
          go_wp2
          go_ret
          have HM' := unhide HM
          subst HM'
          exact ⟨_, _, _, rfl, ⟨rfl, by omega, by omega, (unhide HS2).cell hc0 (by simp; omega), (unhide HS2).cell hc1 (by simp; omega), by rw [← unhide HT, nv_set]; exact unhide HS1, told_lt _ _, hn⟩, below_like (hbel.grown (unhide HS2) hbel.size (by simp)) rfl rfl rfl rfl⟩
set_option maxHeartbeats 800000 in
theorem made_parse (w : World) (n : Nat) (c1 : Value) (W : Nat → Nat) (hn : n ≤ 1048576) (hW : ∀ i, W i < 2 ^ 64)
    (hf : ∀ w', Below w.heap.size w w' → ∀ i, i < wn n → Calls Tryd.prog 37 #[.int .i64 (i : Int), c1] w' fun e w'' => e = .returned (.int .u64 (W i : Int)) ∧ ∃ d, w'' = w'.drewN d) :
    Calls Tryd.prog 28 #[.int .i64 n, .func (.func 37) #[] #[c1]] w fun e w' => ∃ p B g, e = .returned p ∧ ISet w' w.heap.size p n (told n W) B g ∧ Below w.heap.size w w' := by
  obtain ⟨m, hm⟩ : ∃ m, m = wn n := ⟨_, rfl⟩
  have hmd : ((n : Int) + 64 - 1) / 64 = (m : Int) := by rw [hm]; unfold wn; omega
  have hml : m ≤ 16384 := by rw [hm]; unfold wn; omega
  obtain ⟨i0, hin, hz0, hz1, hz2⟩ := info_parts Tryd.info_u64
  have HM := hide hm
  clear hm
  go_enter Tryd.func28, Tryd.ntmps28
  go_wp2_with (first
    | (at_make; refine wpList_make_full _ rfl _ _ 51 rfl w.heap.size 54 i0 (.int .u64 0) 1 Tryd.underlying51 hin hz0 hz1 .i64 .i64 _ _ m rfl rfl (by omega) (by omega) (by rw [hz2]; omega) (by unfold maxLen; omega) (Nat.le_refl _) ?_; intro w0 hown0 hgrow0))
  have hb0 : Below w.heap.size w w0 := (Below.refl _ _).grown hgrow0 (Nat.le_refl _) (by simp)
  rw [made_nv _ _ 64] at hown0
  have hs0 : w.heap.size < w0.heap.size := (World.ownsRow.lt hown0 w.heap.size rfl).2
  obtain ⟨B, hB⟩ : ∃ B, B = w0.heap.size := ⟨_, rfl⟩
  rw [← hB]
  have HB := hide hB
  have hsB : w.heap.size < B := by omega
  clear hB
  go_loopw [21] (fun i wr => ∃ (k : Nat) (xs : List Nat), k ≤ m ∧ i = .int .i64 k ∧ wr.cell? ⟨B, 0, none⟩ = some (.int .i64 (n : Int)) ∧ wr.cell? ⟨B, 1, none⟩ = some (.slice (some ⟨w.heap.size, 0, none⟩) m m) ∧
      Hid (xs.length = m ∧ ∀ i, i < k → xs.getD i 0 = W i) ∧
      wr.ownsRow w.heap.size 54 1 (.slice (some ⟨w.heap.size, 0, none⟩) m m) m (nv .u64 xs) ∧ Below w.heap.size w wr) (fun i _ => m - (intOf i).toNat)
  case atStart =>
    refine ⟨0, _, by omega, rfl, ?_, ?_, hide ⟨dg_length 64 m 0, fun i hi => by omega⟩, hown0.alloc _, hb0.alloc (by omega) _⟩
    · rw [unhide HB, World.cell?_alloc_at _ _ _ _ rfl]; rfl
    · rw [unhide HB, World.cell?_alloc_at _ _ _ _ rfl]; rfl
  case round =>
    obtain ⟨k', xs, hk, rfl, hc0, hc1, HX, hown, hbel⟩ := hrel
    by_cases hlt : k' < m
    · have hlt' : (k' : Int) < (m : Int) := by omega
      have hcell : ∃ u, wr.cell? ⟨w.heap.size, k', none⟩ = some u :=
        ⟨_, (World.ownsRow.cellAt hown k' (by omega)).trans (nv_get .u64 xs k' (by rw [(unhide HX).1]; exact hlt))⟩
      obtain ⟨u, hcell⟩ := hcell
      have hfr := World.ownsRow.frozenAt hown k'
      have hWl := hW k'
      obtain ⟨y, hy⟩ : ∃ y, y = W k' := ⟨_, rfl⟩
      have hfk := fun w' hb => hf w' hb k' (by rw [← unhide HM]; exact hlt)
      rw [← hy] at hWl hfk
      have hyl : y < 18446744073709551616 := hWl
      have HY := hide hy
      clear hy hWl
      obtain ⟨s1, s2⟩ := World.ownsRow.stored hown k' (.int .u64 (y : Int))
      have HS1 := hide s1
      have HS2 := hide s2
      clear s1 s2
      go_wp2_with fail
      go_region_with (first | (go_at_call 37; refine (hfk _ (hbel.drew)).mono ?_; rintro e w' ⟨rfl, d, rfl⟩))
      all_goals
        go_wp2_with fail
        go_roundw
        case rel =>
          refine ⟨k' + 1, xs.set k' y, by omega, by go_num, (unhide HS2).cell hc0 (by simp; omega), (unhide HS2).cell hc1 (by simp; omega), hide ⟨by rw [List.length_set]; exact (unhide HX).1, ?_⟩, by rw [nv_set]; exact unhide HS1, below_like (hbel.grown (unhide HS2) hbel.size (by simp)) rfl rfl rfl rfl⟩
          intro i hi
          rw [List.getD_eq_getElem?_getD, List.getElem?_set]
          by_cases hik : k' = i
          · subst hik
            rw [if_pos rfl, if_pos (by rw [(unhide HX).1]; exact hlt), ← unhide HY]; rfl
          · rw [if_neg hik, ← List.getD_eq_getElem?_getD]
            exact (unhide HX).2 i (by omega)
        case measure => simp [intOf]; omega
    · have ek : k' = m := by omega
      subst ek
      by_cases ho : n % 64 = 0
      · have hoi : (n : Int) % 64 = 0 := by omega
        have ht := told_whole hW (xs := xs) (by rw [← unhide HM]; exact (unhide HX).1) (by rw [← unhide HM]; exact (unhide HX).2) ho
        clear ho
        go_wp2
        go_ret
        have HM' := unhide HM
        subst HM'
        exact ⟨_, _, _, rfl, ⟨rfl, by omega, by omega, hc0, hc1, by rw [← ht]; exact hown, told_lt _ _, hn⟩, hbel⟩
      · have ht := told_cut hW (xs := xs) (by rw [← unhide HM]; exact (unhide HX).1) (by rw [← unhide HM]; exact (unhide HX).2) (by omega)
        obtain ⟨o, hoe⟩ : ∃ o, o = n % 64 := ⟨_, rfl⟩
        have hoi : (n : Int) % 64 = (o : Int) := by omega
        have ho0 : (0 : Int) < (o : Int) := by omega
        have hol : o < 64 := by omega
        have hm1 : 0 < k' := by rw [unhide HM]; unfold wn; omega
        rw [← hoe, ← unhide HM] at ht
        have hxl : xs.getD (k' - 1) 0 < 18446744073709551616 := by
          rw [(unhide HX).2 (k' - 1) (by omega)]; exact hW _
        have hcell := (World.ownsRow.cellAt hown (k' - 1) (by omega)).trans (nv_get .u64 xs (k' - 1) (by rw [(unhide HX).1]; omega))
        have hfr := World.ownsRow.frozenAt hown (k' - 1)
        obtain ⟨y, hy⟩ : ∃ y, y = xs.getD (k' - 1) 0 := ⟨_, rfl⟩
        rw [← hy] at hxl hcell ht
        have hand := and_low y o hxl hol
        obtain ⟨pw, hpw⟩ : ∃ pw : Nat, pw = 2 ^ o := ⟨_, rfl⟩
        have hpi : (2 : Int) ^ o = (pw : Int) := by rw [hpw]; norm_cast
        have hp1 := Nat.two_pow_pos o
        have hp2 : 2 ^ o ≤ 2 ^ 63 := Nat.pow_le_pow_right (by decide) (by omega)
        rw [← hpw] at hp1 hp2
        have hp3 : pw ≤ 9223372036854775808 := by omega
        rw [hpi] at hand
        obtain ⟨z, hz⟩ : ∃ z, z = y % 2 ^ o := ⟨_, rfl⟩
        rw [← hz] at hand ht
        obtain ⟨s1, s2⟩ := World.ownsRow.stored hown (k' - 1) (.int .u64 (z : Int))
        have HS1 := hide s1
        have HS2 := hide s2
        have HT := hide ht
        obtain ⟨l, hl⟩ : ∃ l, l = k' - 1 := ⟨_, rfl⟩
        rw [← hl] at hcell hfr HS1 HS2 HT
        have el : (k' : Int) - 1 = (l : Int) := by omega
        have hll : (l : Int) < (k' : Int) := by omega
        have hll' : l < k' := by omega
        clear s1 s2 ht hz hy hpw hp2 hoe ho hl
        go_wp2_with fail
        go_region
        all_goals
          go_wp2
          go_ret
          have HM' := unhide HM
          subst HM'
          exact ⟨_, _, _, rfl, ⟨rfl, by omega, by omega, (unhide HS2).cell hc0 (by simp; omega), (unhide HS2).cell hc1 (by simp; omega), by rw [← unhide HT, nv_set]; exact unhide HS1, told_lt _ _, hn⟩, below_like (hbel.grown (unhide HS2) hbel.size (by simp)) rfl rfl rfl rfl⟩
end Go.Proofs.YtcldmjjbiifejaaDoor
