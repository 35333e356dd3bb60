/- The contract of the reference's Check. -/
import Derived.Test.YtgdeongeonhlpaaCheck
namespace Go.Proofs.Ytgdeongeonhlpaa
open Go.RowKit Go.Sort Go.Shelf Go.Lib

theorem longB_true {ds : List Str} {i : Nat} (h : i < ds.length) (hl : 64 < (ds.getD i []).length) : longB ds = true := by
  unfold longB
  rw [List.any_eq_true]
  refine ⟨ds[i], List.getElem_mem h, ?_⟩
  simp [h] at hl
  exact decide_eq_true hl
theorem longB_false {ds : List Str} (h : ∀ i, i < ds.length → ¬ 64 < (ds.getD i []).length) : longB ds = false := by
  unfold longB
  rw [List.any_eq_false]
  intro t ht
  obtain ⟨i, hi, rfl⟩ := List.getElem_of_mem ht
  have := h i hi
  simp [hi] at this
  simp
  omega

set_option maxHeartbeats 4000000 in
theorem refchk_any (w : World) (d m : Int) (f : Fc) (hf : f.Ok w) :
    Calls Try.prog 13 #[.agg #[.int .i64 d, .int .i64 m], .agg #[.int .i64 f.t, f.dv, f.mv]] w fun e w' => e = .returned (.int .i64 (chk d m f.ft)) ∧ Below w.heap.size w w' := by
  obtain ⟨aD, nD, cD, hD⟩ := hf.rd.sl
  obtain ⟨aM, nM, cM, hM⟩ := hf.rm.sl
  have lD : nD = f.ds.length := by have := hf.rd; rw [hD] at this; have := this.slen.1; rwa [sv_length] at this
  have lM : nM = f.ms.length := by have := hf.rm; rw [hM] at this; have := this.slen.1; rwa [iv_length] at this
  obtain ⟨W, hW⟩ : ∃ W, W = (w.alloc (.cells #[.int .i64 d, .int .i64 m] 23)).alloc (.cells #[.int .i64 f.t, f.dv, f.mv] 27) := ⟨_, rfl⟩
  have bW : Below w.heap.size w W := by rw [hW]; exact ((Below.refl _ _).alloc (Nat.le_refl _) _).alloc (by simp) _
  have kF := reffine_any W d m
  have rW := hf.rd.below bW
  rw [hD] at rW
  obtain ⟨-, l1a, l1b, l1c⟩ := rW.cells
  rw [sv_length, ← lD] at l1c l1a
  unfold maxLen at l1b
  have hbox : ∀ w5, Below W.heap.size W w5 → (w5.cell? ⟨w.heap.size, 0, none⟩ = some (.int .i64 d) ∧ w5.cell? ⟨w.heap.size, 1, none⟩ = some (.int .i64 m)) ∧ w5.cell? ⟨w.heap.size + 1, 0, none⟩ = some (.int .i64 f.t) ∧ w5.cell? ⟨w.heap.size + 1, 1, none⟩ = some (.slice aD nD cD) ∧ w5.cell? ⟨w.heap.size + 1, 2, none⟩ = some (.slice aM nM cM) := fun w5 h5 => by
    have z : W.heap.size = w.heap.size + 2 := by rw [hW]; simp
    refine ⟨⟨?_, ?_⟩, ?_, ?_, ?_⟩
    · rw [h5.cell (by show w.heap.size < W.heap.size; omega), hW]; simp
    · rw [h5.cell (by show w.heap.size < W.heap.size; omega), hW]; simp
    · rw [h5.cell (by show w.heap.size + 1 < W.heap.size; omega), hW]; simp
    · rw [h5.cell (by show w.heap.size + 1 < W.heap.size; omega), hW, hD]; simp
    · rw [h5.cell (by show w.heap.size + 1 < W.heap.size; omega), hW, hM]; simp
  have ec : chk d m f.ft = if finB d m = true then (if 0 ≤ f.t ∧ f.t < 1099511627776 ∧ (nD : Int) = d ∧ (nM : Int) = m ∧ longB f.ds = false then 0 else 40) else 1 := by
    rw [lD, lM]; rfl
  rw [ec]
  have HW : Hid _ := hW
  rw [hW] at kF
  rw [hD, hM]
  rw [hD, hM] at HW kF
  have HB : Hid (Below w.heap.size w W) := bW
  have HBX : Aside _ := hbox
  have HN : Hid (nD = f.ds.length) := lD
  have R1 : Aside _ := l1c
  generalize f.t = t at *
  generalize f.ds = ds at *
  clear ec hW bW hbox hf hD hM lD lM rW l1c
  by_cases h1 : finB d m = true
  · rw [h1] at kF
    rw [if_pos h1]
    obtain ⟨R, hR⟩ : ∃ R : Int, R = (if 0 ≤ t ∧ t < 1099511627776 ∧ (nD : Int) = d ∧ (nM : Int) = m ∧ longB ds = false then 0 else 40) := ⟨_, rfl⟩
    rw [← hR]
    have fin : ∀ (w5 : World) (Z : Int), Z = (if 0 ≤ t ∧ t < 1099511627776 ∧ (nD : Int) = d ∧ (nM : Int) = m ∧ longB ds = false then 0 else 40) → Below W.heap.size W w5 → Ending.returned (.int .i64 Z) = .returned (.int .i64 R) ∧ Below w.heap.size w w5 := fun w5 Z hz hb => ⟨by rw [hz, hR], HB.out.trans (hb.mono HB.out.size)⟩
    clear hR
    have FIN : Aside _ := fin
    clear h1 fin
    go_enter Try.func13, Try.ntmps13
    go_wp2_with fail
    refine kF.mono ?_
    rintro e w5 ⟨rfl, b5⟩
    rw [← HW.out] at b5
    obtain ⟨⟨x0, x1⟩, y0, y1, y2⟩ := HBX.out w5 b5
    have HB5 : Hid (Below W.heap.size W w5) := b5
    clear kF b5 HW
    by_cases g1 : t < 0
    · go_wp2_with fail
      go_ret
      exact FIN.out w5 40 (by rw [if_neg (by omega)]) HB5.out
    · by_cases g2 : 1099511627776 ≤ t
      · go_wp2_with fail
        go_ret
        exact FIN.out w5 40 (by rw [if_neg (by omega)]) HB5.out
      · by_cases g3 : (nD : Int) = d
        · have g3b : ((nD : Int) != d) = false := by simp [g3]
          by_cases g4 : (nM : Int) = m
          · have g4b : ((nM : Int) != m) = false := by simp [g4]
            have HG : Hid ((nD : Int) = d ∧ (nM : Int) = m ∧ 0 ≤ t ∧ t < 1099511627776) := ⟨g3, g4, by omega, by omega⟩
            clear g3 g4
            go_wp2_with fail
            clear g3b g4b g1 g2 x0 x1 y0 y1 y2
            go_loopg [6] nD (fun kx vi wr => ∃ i : Nat, vi = .int .i64 i ∧ i ≤ nD ∧ nD - i ≤ kx ∧ Hid (Below W.heap.size W wr) ∧ Hid (∀ j, j < i → ¬ 64 < (ds.getD j []).length))
            case atStart => exact ⟨0, rfl, Nat.zero_le _, Nat.le_refl _, HB5.out, fun j hj => by omega⟩
            case round =>
              clear HB5
              obtain ⟨i, rfl, hi, hkx, HBr, HI⟩ := hrel
              obtain ⟨⟨x0, x1⟩, y0, y1, y2⟩ := HBX.out wr HBr.out
              by_cases hlt : i < nD
              · have hltz : (i : Int) < (nD : Int) := by omega
                obtain ⟨b1, o1, rfl, c1⟩ := R1.out (by omega)
                have hid : i < ds.length := by have := HN.out; omega
                have r1 := c1 i _ (sv_get ds i hid)
                rw [← HBr.out.cell (World.block_lt_of_cell? _ _ r1)] at r1
                obtain ⟨x, hx⟩ : ∃ x, x = ds.getD i [] := ⟨_, rfl⟩
                rw [← hx] at r1
                have hs := str_size x
                have HX : Hid (x = ds.getD i []) := hx
                clear hx c1
                by_cases hl : 64 < x.length
                · have hlz : (64 : Int) < (x.length : Int) := by omega
                  have HL : Hid (longB ds = true) := longB_true hid (by rw [← HX.out]; exact hl)
                  go_wp2_with fail
                  go_ret
                  exact FIN.out _ 40 (by rw [if_neg (fun h => by rw [HL.out] at h; simp at h)]) HBr.out
                · have hlz : ¬ (64 : Int) < (x.length : Int) := by omega
                  go_wp2_with fail
                  go_roundg (nD - (i + 1))
                  case measure => omega
                  case rel =>
                    refine ⟨i + 1, by go_num, by omega, by omega, HBr.out, fun j hj => ?_⟩
                    by_cases hji : j = i
                    · subst hji; rw [← HX.out]; omega
                    · exact HI.out j (by omega)
              · have hltz : ¬ (i : Int) < (nD : Int) := by omega
                have HL : Hid (longB ds = false) := longB_false fun j hj => HI.out j (by have := HN.out; omega)
                go_wp2_with fail
                go_ret
                exact FIN.out _ 0 (by rw [if_pos ⟨HG.out.2.2.1, HG.out.2.2.2, HG.out.1, HG.out.2.1, HL.out⟩]) HBr.out
          · have g4b : ((nM : Int) != m) = true := by simp [g4]
            have HG : Hid (¬ (nM : Int) = m) := g4
            clear g3 g4
            go_wp2_with fail
            go_ret
            exact FIN.out w5 40 (by rw [if_neg (fun h => HG.out h.2.2.2.1)]) HB5.out
        · have g3b : ((nD : Int) != d) = true := by simp [g3]
          have HG : Hid (¬ (nD : Int) = d) := g3
          clear g3
          go_wp2_with fail
          go_ret
          exact FIN.out w5 40 (by rw [if_neg (fun h => HG.out h.2.2.1)]) HB5.out
  · have h2 : finB d m = false := by simpa using h1
    rw [h2] at kF
    rw [if_neg h1]
    clear h1 h2
    go_enter Try.func13, Try.ntmps13
    go_wp2_with fail
    refine kF.mono ?_
    rintro e w5 ⟨rfl, b5⟩
    rw [← HW.out] at b5
    go_wp2_with fail
    go_ret
    exact ⟨rfl, HB.out.trans (b5.mono HB.out.size)⟩
end Go.Proofs.Ytgdeongeonhlpaa
