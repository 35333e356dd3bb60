/- Contracts of Fine and Check. -/
import Derived.Test.YtgdeongeonhlpaaSpan
import Derived.Test.YtgdeongeonhlpaaShelf
namespace Go.Proofs.Ytgdeongeonhlpaa
open Go.RowKit Go.Sort Go.Shelf Go.Lib

/-- May a schema be? -/
def finB (d m : Int) : Bool := decide (0 ≤ d ∧ d ≤ 8 ∧ 0 ≤ m ∧ m ≤ 8)
def longB (ds : List Str) : Bool := ds.any fun t => decide (64 < t.length)
def maxT : Int := 1099511627776
/-- What Check answers. -/
def chk (d m : Int) (f : Ft) : Int :=
  if finB d m = true then (if 0 ≤ f.t ∧ f.t < maxT ∧ (f.ds.length : Int) = d ∧ (f.ms.length : Int) = m ∧ longB f.ds = false then 0 else 40) else 1
theorem box_below (w : World) (o : Obj) : Below w.heap.size w (w.alloc o) := (Below.refl _ _).alloc (Nat.le_refl _) _

set_option maxHeartbeats 800000 in
theorem fine_any (w : World) (d m : Int) :
    Calls Try.prog 11 #[.agg #[.int .i64 d, .int .i64 m]] w fun e w' => e = .returned (.int .i64 (if finB d m = true then 0 else 1)) ∧ Below w.heap.size w w' := by
  by_cases h1 : 0 ≤ d
  · have h1n : ¬ d < 0 := by omega
    by_cases h2 : d ≤ 8
    · have h2n : ¬ 8 < d := by omega
      by_cases h3 : 0 ≤ m
      · have h3n : ¬ m < 0 := by omega
        by_cases h4 : m ≤ 8
        · have h4n : ¬ 8 < m := by omega
          have e : finB d m = true := decide_eq_true ⟨h1, h2, h3, h4⟩
          rw [e]
          clear e
          go_enter Try.func11, Try.ntmps11
          go_wp2_with fail
          go_ret
          exact ⟨rfl, box_below _ _⟩
        · have h4n : 8 < m := by omega
          have e : finB d m = false := decide_eq_false (by omega)
          rw [e]
          clear e
          go_enter Try.func11, Try.ntmps11
          go_wp2_with fail
          go_ret
          exact ⟨rfl, box_below _ _⟩
      · have h3n : m < 0 := by omega
        have e : finB d m = false := decide_eq_false (by omega)
        rw [e]
        clear e
        go_enter Try.func11, Try.ntmps11
        go_wp2_with fail
        go_ret
        exact ⟨rfl, box_below _ _⟩
    · have h2n : 8 < d := by omega
      have e : finB d m = false := decide_eq_false (by omega)
      rw [e]
      clear e
      go_enter Try.func11, Try.ntmps11
      go_wp2_with fail
      go_ret
      exact ⟨rfl, box_below _ _⟩
  · have h1n : d < 0 := by omega
    have e : finB d m = false := decide_eq_false (by omega)
    rw [e]
    clear e
    go_enter Try.func11, Try.ntmps11
    go_wp2_with fail
    go_ret
    exact ⟨rfl, box_below _ _⟩

set_option maxHeartbeats 800000 in
theorem reffine_any (w : World) (d m : Int) :
    Calls Try.prog 10 #[.agg #[.int .i64 d, .int .i64 m]] w fun e w' => e = .returned (.bool (finB d m)) ∧ Below w.heap.size w w' := by
  by_cases h1 : 0 ≤ d
  · have h1n : ¬ d < 0 := by omega
    by_cases h2 : d ≤ 8
    · have h2n : ¬ 8 < d := by omega
      by_cases h3 : 0 ≤ m
      · have h3n : ¬ m < 0 := by omega
        by_cases h4 : m ≤ 8
        · have h4n : ¬ 8 < m := by omega
          have e : finB d m = true := decide_eq_true ⟨h1, h2, h3, h4⟩
          rw [e]
          clear e
          go_enter Try.func10, Try.ntmps10
          go_wp2_with fail
          go_ret
          exact ⟨rfl, box_below _ _⟩
        · have h4n : 8 < m := by omega
          have e : finB d m = false := decide_eq_false (by omega)
          rw [e]
          clear e
          go_enter Try.func10, Try.ntmps10
          go_wp2_with fail
          go_ret
          exact ⟨rfl, box_below _ _⟩
      · have h3n : m < 0 := by omega
        have e : finB d m = false := decide_eq_false (by omega)
        rw [e]
        clear e
        go_enter Try.func10, Try.ntmps10
        go_wp2_with fail
        go_ret
        exact ⟨rfl, box_below _ _⟩
    · have h2n : 8 < d := by omega
      have e : finB d m = false := decide_eq_false (by omega)
      rw [e]
      clear e
      go_enter Try.func10, Try.ntmps10
      go_wp2_with fail
      go_ret
      exact ⟨rfl, box_below _ _⟩
  · have h1n : d < 0 := by omega
    have e : finB d m = false := decide_eq_false (by omega)
    rw [e]
    clear e
    go_enter Try.func10, Try.ntmps10
    go_wp2_with fail
    go_ret
    exact ⟨rfl, box_below _ _⟩

set_option maxHeartbeats 400000 in
theorem tooLong_any (w : World) (t : Str) :
    Calls Try.prog 28 #[.string ⟨t.toArray⟩] w fun e w' => e = .returned (.bool (decide (64 < t.length))) ∧ w' = w := by
  have hs := str_size t
  by_cases h : 64 < t.length
  · have hi : (64 : Int) < (t.length : Int) := by omega
    go_enter Try.func28, Try.ntmps28
    go_wp2
    go_ret
    simp [h]
  · have hi : ¬ (64 : Int) < (t.length : Int) := by omega
    go_enter Try.func28, Try.ntmps28
    go_wp2
    go_ret
    simp
theorem Try.tooLong_pred (w : World) : PredAt Try.prog 28 #[] (fun t : Str => Value.string ⟨t.toArray⟩) (fun t => decide (64 < t.length)) w := fun W t _ =>
  (tooLong_any W t).mono fun _ _ ⟨he, hw⟩ => ⟨he, 0, hw⟩
theorem contains_any (w : World) (v : Value) (ts : List Str) (h : Rds w v (sv ts)) :
    Calls Try.prog 27 #[v, .func (.func 28) #[] #[]] w fun e w' => e = .returned (.bool (longB ts)) ∧ ∃ q, w' = w.drewN q := by
  obtain ⟨ao, n, cap, rfl⟩ := h.sl
  obtain ⟨rfl, h1, h2, h3⟩ := h.cells
  simp only [sv_length] at *
  unfold maxLen at h2
  by_cases h0 : 0 < ts.length
  · obtain ⟨b, off, rfl, hc⟩ := h3 h0
    have := Try.slices_ContainsFunc (fun t : Str => Value.string ⟨t.toArray⟩) (fun t => decide (64 < t.length)) 28 #[] (enters_of Try.func28 (by kernel_rfl) rfl) b off ts.length cap ts w (Try.tooLong_pred w) (Nat.le_refl _) (by omega)
      (fun j hj => by
        rw [hc j _ (sv_get ts j hj), getD_at hj, getElem!_pos ts j hj])
    rwa [List.take_of_length_le (Nat.le_refl _)] at this
  · obtain rfl : ts = [] := List.eq_nil_of_length_eq_zero (by omega)
    refine (Try.slices_ContainsFunc_empty (α := Str) ao cap _ w).mono ?_
    rintro e w' ⟨rfl, rfl⟩
    exact ⟨rfl, 0, rfl⟩
theorem Rds.slen {w : World} {ao : Option Addr} {n cap : Nat} {xs : List Value} (h : Rds w (.slice ao n cap) xs) : n = xs.length ∧ n ≤ cap ∧ cap ≤ maxLen := by
  obtain ⟨h0, h1, h2, _⟩ := h.cells
  exact ⟨h0, by omega, h2⟩

set_option maxHeartbeats 4000000 in
theorem check_any (w : World) (d m : Int) (f : Fc) (hf : f.Ok w) :
    Calls Try.prog 12 #[.agg #[.int .i64 d, .int .i64 m], .agg #[.int .i64 f.t, f.dv, f.mv]] w fun e w' => e = .returned (.int .i64 (chk d m f.ft)) ∧ Below w.heap.size w w' := by
  obtain ⟨aD, nD, cD, hD⟩ := hf.rd.sl
  obtain ⟨aM, nM, cM, hM⟩ := hf.rm.sl
  have lD : nD = f.ds.length := by have := hf.rd; rw [hD] at this; have := this.slen.1; rwa [sv_length] at this
  have lM : nM = f.ms.length := by have := hf.rm; rw [hM] at this; have := this.slen.1; rwa [iv_length] at this
  obtain ⟨W, hW⟩ : ∃ W, W = (w.alloc (.cells #[.int .i64 d, .int .i64 m] 23)).alloc (.cells #[.int .i64 f.t, f.dv, f.mv] 27) := ⟨_, rfl⟩
  have bW : Below w.heap.size w W := by rw [hW]; exact ((Below.refl _ _).alloc (Nat.le_refl _) _).alloc (by simp) _
  have kF := fine_any W d m
  have kC : ∀ w', Below W.heap.size W w' → Calls Try.prog 27 #[.slice aD nD cD, .func (.func 28) #[] #[]] w' fun e w'' => e = .returned (.bool (longB f.ds)) ∧ ∃ q, w'' = w'.drewN q := fun w' hb => by
    have := contains_any w' f.dv f.ds ((hf.rd.below bW).below hb)
    rwa [hD] at this
  have hbox : ∀ w5, Below W.heap.size W w5 → (w5.cell? ⟨w.heap.size, 0, none⟩ = some (.int .i64 d) ∧ w5.cell? ⟨w.heap.size, 1, none⟩ = some (.int .i64 m)) ∧ w5.cell? ⟨w.heap.size + 1, 0, none⟩ = some (.int .i64 f.t) ∧ w5.cell? ⟨w.heap.size + 1, 1, none⟩ = some (.slice aD nD cD) ∧ w5.cell? ⟨w.heap.size + 1, 2, none⟩ = some (.slice aM nM cM) := fun w5 h5 => by
    have z : W.heap.size = w.heap.size + 2 := by rw [hW]; simp
    refine ⟨⟨?_, ?_⟩, ?_, ?_, ?_⟩
    · rw [h5.cell (by show w.heap.size < W.heap.size; omega), hW]; simp
    · rw [h5.cell (by show w.heap.size < W.heap.size; omega), hW]; simp
    · rw [h5.cell (by show w.heap.size + 1 < W.heap.size; omega), hW]; simp
    · rw [h5.cell (by show w.heap.size + 1 < W.heap.size; omega), hW, hD]; simp
    · rw [h5.cell (by show w.heap.size + 1 < W.heap.size; omega), hW, hM]; simp
  have ec : chk d m f.ft = if finB d m = true then (if 0 ≤ f.t ∧ f.t < 1099511627776 ∧ (nD : Int) = d ∧ (nM : Int) = m ∧ longB f.ds = false then 0 else 40) else 1 := by
    rw [lD, lM]; rfl
  rw [ec]
  have HW : Hid _ := hW
  rw [hW] at kF
  rw [hD, hM]
  rw [hD, hM] at HW kF
  have HB : Hid (Below w.heap.size w W) := bW
  have HBX : Aside _ := hbox
  have KC : Aside _ := kC
  generalize f.t = t at *
  clear ec hW bW hbox kC hf hD hM lD lM
  by_cases h1 : finB d m = true
  · rw [if_pos h1] at kF ⊢
    obtain ⟨R, hR⟩ : ∃ R : Int, R = (if 0 ≤ t ∧ t < 1099511627776 ∧ (nD : Int) = d ∧ (nM : Int) = m ∧ longB f.ds = false then 0 else 40) := ⟨_, rfl⟩
    rw [← hR]
    have fin : ∀ (w5 : World) (Z : Int), Z = (if 0 ≤ t ∧ t < 1099511627776 ∧ (nD : Int) = d ∧ (nM : Int) = m ∧ longB f.ds = false then 0 else 40) → Below W.heap.size W w5 → Ending.returned (.int .i64 Z) = .returned (.int .i64 R) ∧ Below w.heap.size w w5 := fun w5 Z hz hb => ⟨by rw [hz, hR], HB.out.trans (hb.mono HB.out.size)⟩
    clear hR
    have FIN : Aside _ := fin
    clear h1 fin
    go_enter Try.func12, Try.ntmps12
    go_wp2_with fail
    refine kF.mono ?_
    rintro e w5 ⟨rfl, b5⟩
    rw [← HW.out] at b5
    obtain ⟨⟨x0, x1⟩, y0, y1, y2⟩ := HBX.out w5 b5
    have HB5 : Hid (Below W.heap.size W w5) := b5
    have kC5 := KC.out w5 b5
    clear kF b5 HBX KC HW
    by_cases g1 : t < 0
    · go_wp2_with fail
      go_ret
      exact FIN.out w5 40 (by rw [if_neg (by omega)]) HB5.out
    · by_cases g2 : 1099511627776 ≤ t
      · go_wp2_with fail
        go_ret
        exact FIN.out w5 40 (by rw [if_neg (by omega)]) HB5.out
      · by_cases g3 : (nD : Int) = d
        · have g3b : ((nD : Int) != d) = false := by simp [g3]
          by_cases g4 : (nM : Int) = m
          · have g4b : ((nM : Int) != m) = false := by simp [g4]
            have HG : Hid ((nD : Int) = d ∧ (nM : Int) = m) := ⟨g3, g4⟩
            clear g3 g4
            obtain ⟨Lb, hL⟩ : ∃ Lb, Lb = longB f.ds := ⟨_, rfl⟩
            rw [← hL] at kC5
            have HLL : Hid (Lb = longB f.ds) := hL
            clear hL
            cases Lb with
            | true =>
              go_wp2_with fail
              refine kC5.mono ?_
              rintro e w6 ⟨rfl, q, rfl⟩
              go_wp2_with fail
              go_ret
              exact FIN.out _ 40 (by rw [if_neg (fun h => by rw [← HLL.out] at h; simp at h)]) (below_dN HB5.out q)
            | false =>
              go_wp2_with fail
              refine kC5.mono ?_
              rintro e w6 ⟨rfl, q, rfl⟩
              go_wp2_with fail
              go_ret
              exact FIN.out _ 0 (by rw [if_pos ⟨by omega, by omega, HG.out.1, HG.out.2, HLL.out.symm⟩]) (below_dN HB5.out q)
          · have g4b : ((nM : Int) != m) = true := by simp [g4]
            have HG : Hid (¬ (nM : Int) = m) := g4
            clear g3 g4
            go_wp2_with fail
            go_ret
            exact FIN.out w5 40 (by rw [if_neg (fun h => HG.out h.2.2.2.1)]) HB5.out
        · have g3b : ((nD : Int) != d) = true := by simp [g3]
          have HG : Hid (¬ (nD : Int) = d) := g3
          clear g3
          go_wp2_with fail
          go_ret
          exact FIN.out w5 40 (by rw [if_neg (fun h => HG.out h.2.2.1)]) HB5.out
  · rw [if_neg h1] at kF ⊢
    clear h1
    go_enter Try.func12, Try.ntmps12
    go_wp2_with fail
    refine kF.mono ?_
    rintro e w5 ⟨rfl, b5⟩
    rw [← HW.out] at b5
    go_wp2_with fail
    go_ret
    exact ⟨rfl, HB.out.trans (b5.mono HB.out.size)⟩
end Go.Proofs.Ytgdeongeonhlpaa
