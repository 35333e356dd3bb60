/- Contracts of Cube, Rollup and the reference's. -/
import Derived.Test.YtiiihjihegilnaaGreatDoorQcb
namespace Go.Proofs.YtiiihjihegilnaaGreatDoor
open Go.RowKit Go.Sort

theorem Rds.take {w : World} {ao : Option Addr} {n cap m : Nat} {l : List Int} (h : Rds w (.slice ao n cap) (iv l)) (hm : m ≤ l.length) : Rds w (.slice ao m cap) (iv (l.take m)) := by
  obtain ⟨ao', cap', he, h1, h2, h3, h4⟩ := h
  simp only [Value.slice.injEq] at he
  obtain ⟨rfl, -, rfl⟩ := he
  rw [iv_length] at h1 h3
  have e : (iv (l.take m)).length = m := by rw [iv_length, List.length_take]; omega
  refine ⟨ao, cap, by rw [e], by omega, h2, fun hn => ?_, fun ad ha j u hj => ?_⟩
  · have := h3 hn; exact ⟨by omega, this.2⟩
  · refine h4 ad ha j u ?_
    have : iv (l.take m) = (iv l).take m := by simp [iv, List.map_take]
    rw [this, List.getElem?_take] at hj
    split at hj
    · exact hj
    · cases hj
theorem Rds.k1 {w : World} {v : Value} {l : List Int} (h : Rds w v (iv l)) : RdsK 1 w v l.length (iv l) := by
  obtain ⟨ao, cap, rfl, h1, h2, h3, h4⟩ := h
  rw [iv_length] at h1 h3
  exact ⟨ao, cap, by rw [iv_length], by simp [iv], h1, h2, h3, h4⟩
theorem rol_len (d : List Int) : (rol d).length = d.length + 1 := by simp [rol]
theorem rol_get (d : List Int) (j : Nat) (h : j < d.length + 1) : (rol d)[d.length - j]'(by rw [rol_len]; omega) = d.take j := by
  unfold rol
  rw [List.getElem_reverse]
  simp only [List.length_map, List.length_range, List.getElem_map, List.getElem_range]
  congr 1; omega
theorem cub_len (d : List Int) : (cub d).length = 2 ^ d.length := by simp [cub]
theorem cub_get (d : List Int) (j : Nat) (h : j < 2 ^ d.length) : (cub d)[2 ^ d.length - 1 - j]'(by rw [cub_len]; omega) = chs d j := by
  unfold cub
  rw [List.getElem_reverse]
  simp only [List.length_map, List.length_range, List.getElem_map, List.getElem_range]
  congr 1; omega
theorem snds_app (a b : List St) : snds (a ++ b) = snds a ++ snds b := by simp [snds]
theorem take_step {α : Type} (l : List α) (k : Nat) (h : k < l.length) : l.take (k + 1) = l.take k ++ [l[k]] := by rw [List.take_succ_eq_append_getElem h]
set_option maxRecDepth 100000 in
set_option maxHeartbeats 4000000 in
theorem cube_any (w : World) (v : Value) (dims : List Int) (h : Rds w v (iv dims)) (hn : dims.length ≤ 6) :
    Calls Tryz.prog 14 #[v] w fun e w' => ∃ v', e = .returned v' ∧ ∃ l, OwS w' w.heap.size v' l ∧ snds l = cub dims ∧ Below w.heap.size w w' := by
  obtain ⟨i0, hi0, hy0, hy1, hy2⟩ := info_parts Tryz.info_ints
  obtain ⟨ao, n, cap, rfl⟩ := h.sl
  obtain ⟨e0, e1, e2, e3⟩ := h.ints
  have HH : Hid _ := h
  have HN : Hid (n = dims.length) := e0
  have hn6 : n ≤ 6 := by omega
  have hn6z : ¬ (6 : Int) < (n : Int) := by omega
  obtain ⟨N, hN⟩ : ∃ N, N = 2 ^ n := ⟨_, rfl⟩
  have hN1 : 1 ≤ N ∧ N ≤ 64 := by
    rw [hN]
    exact ⟨Nat.one_le_two_pow, Nat.le_trans (Nat.pow_le_pow_right (by decide) hn6) (by decide)⟩
  have HCL : Hid ((cub dims).length = N) := by show _ = _; rw [cub_len, hN, e0]
  have HCG : Aside (∀ j, j < N → ∃ h, (cub dims)[N - 1 - j]'h = chs dims j) := fun j hj => by
    have h1 : N = 2 ^ dims.length := by rw [hN, e0]
    subst h1
    exact ⟨_, cub_get dims j hj⟩
  have hsh : (2 : Int) ^ n = (N : Int) := by rw [hN]; simp
  have HNN : Hid _ := hN
  clear h e0 e1 e3 hn hN
  unfold maxLen at e2
  go_enter Tryz.func14, Tryz.ntmps14
  go_wp2_with fail
  go_loopg [3, 4] N (fun kx v3 v4 wr => ∃ (j : Nat) (l : List St), v4 = .int .i64 ((j : Int) - 1) ∧ j ≤ N ∧ j ≤ kx ∧ Hid (snds l = (cub dims).take (N - j) ∧ l.length = N - j) ∧ Hid (OwS wr w.heap.size v3 l) ∧ Hid (Below w.heap.size w wr))
  case atStart => exact ⟨N, [], by first | rfl | (congr 1; omega) | (simp; omega), Nat.le_refl _, Nat.le_refl _, ⟨by simp [snds], by simp⟩, OwS.nil _ _, Below.refl _ _⟩
  case round =>
    obtain ⟨j, l, rfl, hj, hkx, HR, HO, HB⟩ := hrel
    obtain ⟨a3, n3, c3, h3⟩ := own_sl HO.out.own
    subst h3
    cases j with
    | zero =>
      have hz : ¬ (0 : Int) ≤ ((0 : Nat) : Int) - 1 := by omega
      have HF : Hid (snds l = cub dims) := by
        show _ = _
        rw [HR.out.1, Nat.sub_zero, List.take_of_length_le (by rw [HCL.out]; exact Nat.le_refl _)]
      go_wp2_with fail
      go_ret
      exact ⟨_, rfl, l, HO.out, HF.out, HB.out⟩
    | succ m =>
      have hm1 : ((m + 1 : Nat) : Int) - 1 = (m : Int) := by omega
      have hmz : (0 : Int) ≤ (m : Int) := by omega
      have kC := chosen_any wr _ dims (Rds.below HH.out HB.out) m (by omega) (by have := HN.out; omega)
      have HST : Hid (snds l ++ [chs dims m] = (cub dims).take (N - m)) := by
        show _ = _
        obtain ⟨hp, hg⟩ := HCG.out m (by omega)
        have e1 : N - m = (N - (m + 1)) + 1 := by omega
        have e2 : N - (m + 1) = N - 1 - m := by omega
        rw [HR.out.1, e1, take_step _ _ (by rw [HCL.out]; omega)]
        congr 2
        simp only [e2]
        exact hg.symm
      rw [hm1]
      go_wp2_with fail
      refine kC.mono ?_
      rintro e w1 ⟨v1, rfl, o1, b1⟩
      obtain ⟨a1, n1, c1, h1⟩ := own_sl o1
      subst h1
      obtain ⟨X, hX⟩ : ∃ X, X = w1.alloc (.cells #[.slice a1 n1 c1] 55) := ⟨_, rfl⟩
      have gX : Below w1.heap.size w1 X := by rw [hX]; exact (Grows.alloc _ _).below
      have HS : Hid (OwS X w.heap.size (.slice a3 n3 c3) l) := (HO.out.up b1).up gX
      have HO1 : Hid (X.ownsRow w.heap.size 3 1 (.slice a1 n1 c1) (chs dims m).length (iv (chs dims m))) := own_mono (own_below o1 gX) HB.out.size
      have HB1 : Hid (Below w.heap.size w X) := HB.out.trans ((b1.trans (gX.mono b1.size)).mono HB.out.size)
      have HR1 : Hid (RdsK 1 X (.slice (some ⟨w1.heap.size, 0, none⟩) 1 1) 1 [.slice a1 n1 c1]) := by rw [hX]; exact one_rdI w1 _ _ _ rfl
      have HOO : Aside (∀ u ∈ [Value.slice a1 n1 c1], u.oneCell' = true) := fun u hu => by simp at hu; subst hu; rfl
      have hza : l.length + 1 ≤ maxLen := qmax _ (by have := HR.out.2; omega)
      have hzb' : ((l.length + 1) + (l.length + 1) / 4 + 192) * 24 ≤ 281474976710656 := qby _ _ (by have := HR.out.2; omega) (by omega)
      have hws5 : w.heap.size ≤ X.heap.size := HB1.out.size
      rw [hX] at HS HO1 HB1 HR1 hws5
      clear kC o1 b1 gX hX
      go_wp2_with (first
        | (at_builtin; refine wpList_appK rfl _ _ 30 rfl w.heap.size 55 i0 (.slice none 0 0) 1 24 Tryz.underlying30 hi0 hy0 hy1 hy2 rfl (by decide) _ _ _ rfl HS.out.own _ _ _ rfl HR1.out HOO.out hza hzb' hws5 ?_; intro v7 w7 hown7 hgrow7 hnil7))
      go_roundg m
      case measure => omega
      case rel => exact ⟨m, l ++ [(.slice a1 n1 c1, chs dims m)], by go_num, by omega, Nat.le_refl _, ⟨by rw [snds_app]; exact HST.out, by have := HR.out.2; simp; omega⟩, OwS.add HS.out HO1.out hgrow7 hown7, HB1.out.grown hgrow7 hws5 fun k hk => (World.ownsRow.lt HS.out.own k hk).1⟩
set_option maxHeartbeats 1600000 in
theorem cube_many (w : World) (v : Value) (dims : List Int) (h : Rds w v (iv dims)) (hn : ¬ dims.length ≤ 6) :
    Calls Tryz.prog 14 #[v] w fun e w' => e = .returned (.slice none 0 0) ∧ w' = w := by
  obtain ⟨ao, n, cap, rfl⟩ := h.sl
  obtain ⟨e0, e1, e2, -⟩ := h.ints
  have hn6z : (6 : Int) < (n : Int) := by omega
  unfold maxLen at e2
  clear h e0 hn
  go_enter Tryz.func14, Tryz.ntmps14
  go_wp2_with fail
  go_ret
  exact ⟨rfl, rfl⟩
end Go.Proofs.YtiiihjihegilnaaGreatDoor
