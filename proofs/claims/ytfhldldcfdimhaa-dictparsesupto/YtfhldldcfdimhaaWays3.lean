/- The contract of Begin. -/
import Derived.Test.YtfhldldcfdimhaaWays2
namespace Go.Proofs.Ytfhldldcfdimhaa
open Go.RowKit Go.Shelf Go.Sort

set_option maxRecDepth 100000 in
set_option maxHeartbeats 4000000 in
theorem begin_any (w : World) (p : Value) (ts : List Str) (s : Str) (h : ND w p ts) :
    Calls Try.prog 19 #[p, .string ⟨s.toArray⟩] w fun e w' => e = .returned (.tuple #[.int .i64 (frm ts s : Nat), .int .i64 (bgn ts s : Nat)]) ∧ Below w.heap.size w w' := by
  obtain ⟨ap, rfl⟩ := h.ptr
  obtain ⟨p, hp⟩ : ∃ p, p = Value.pointer ap := ⟨_, rfl⟩
  rw [← hp] at h
  obtain ⟨W0, hW0⟩ : ∃ W0, W0 = (w.alloc (.cells #[p] 25)).alloc (.cells #[.string ⟨s.toArray⟩] 9) := ⟨_, rfl⟩
  have hsize : W0.heap.size = w.heap.size + 1 + 1 := by rw [hW0]; simp
  have hB0 : Below w.heap.size w W0 := by rw [hW0]; exact ((Below.refl _ w).alloc (Nat.le_refl _) _).alloc (by simp) _
  have cd : W0.cell? ⟨w.heap.size, 0, none⟩ = some p := by rw [hW0]; exact cell_alloc_sl _ (cell_new_sl w _ _)
  have cs : W0.cell? ⟨w.heap.size + 1, 0, none⟩ = some (.string ⟨s.toArray⟩) := by rw [hW0]; have := cell_new_sl (w.alloc (.cells #[p] 25)) (.string ⟨s.toArray⟩) 9; rwa [World.size_alloc] at this
  have hN0 := h.below hB0
  have hF := from_any W0 p ts s hN0
  have hle := h.le
  have hlo := frm_le ts s
  have eg : ∀ args w, (callFunc 45 args).run Try.prog w = .ok (.enter 45 args) w := enters_of Try.func45 (by kernel_rfl) rfl
  /- what the second search finds, in a world where all of W0 lies as it lay and lo lies in its box -/
  have hS : ∀ (W : World) (C : Nat), Below W0.heap.size W0 W → W.cell? ⟨C, 0, none⟩ = some (.int .i64 ((frm ts s : Nat) : Int)) →
      Calls Try.prog 44 #[.int .i64 ((ts.length - frm ts s : Nat) : Int), .func (.func 45) #[] #[.pointer (some ⟨w.heap.size, 0, none⟩), .pointer (some ⟨C, 0, none⟩), .pointer (some ⟨w.heap.size + 1, 0, none⟩)]] W
        fun e w' => e = .returned (.int .i64 (((ts.drop (frm ts s)).countP (pre s) : Nat) : Int)) ∧ ∃ q os, w' = grow (W.drewN q) os := fun W C hB hC => by
    have hN := hN0.below hB
    have cd' := (hB.cell (World.block_lt_of_cell? _ _ cd)).trans cd
    have cs' := (hB.cell (World.block_lt_of_cell? _ _ cs)).trans cs
    have hS := Any.sort_Search Try.laysSlO16 45 #[.pointer (some ⟨w.heap.size, 0, none⟩), .pointer (some ⟨C, 0, none⟩), .pointer (some ⟨w.heap.size + 1, 0, none⟩)] (ts.length - frm ts s) (fun i => !pre s ((ts.drop (frm ts s)).getD i [])) W eg (by omega)
      (fun m os i hi => by
        obtain ⟨B, b, off, cap, rfl, h1, h2, h3, h4⟩ := hN.some (by omega)
        have h5 := h4 (frm ts s + i) (by omega)
        have e : (ts.drop (frm ts s)).getD i [] = ts.getD (frm ts s + i) [] := by simp
        rw [e]
        exact (begin_closure w.heap.size C (w.heap.size + 1) B b off ts.length cap i (frm ts s) (ts.getD (frm ts s + i) []) s _ (by omega) hle (cell_grown (World.block_lt_of_cell? _ _ cd') cd' m os) (cell_grown (World.block_lt_of_cell? _ _ hC) hC m os) (cell_grown (World.block_lt_of_cell? _ _ cs') cs' m os)
          (cell_grown (World.block_lt_of_cell? _ _ h1) h1 m os) (cell_grown (World.block_lt_of_cell? _ _ h5) h5 m os)).mono fun _ _ ⟨he, q, hq⟩ => ⟨he, q, #[], by rw [hq, grow_empty]⟩)
      (fun a b hab hb ha => by
        have hc := count_iff (pre s) _ (drop_mono h.ris s)
        have hl : (ts.drop (frm ts s)).length = ts.length - frm ts s := by simp
        simp only [Bool.not_eq_true', ← Bool.not_eq_true] at ha ⊢
        rw [getD_at (by omega), hc a (by omega)] at ha
        rw [getD_at (by omega), hc b (by omega)]
        omega)
    have hcnt : (List.range (ts.length - frm ts s)).countP (fun i => !(!pre s ((ts.drop (frm ts s)).getD i []))) = (ts.drop (frm ts s)).countP (pre s) := by
      have := countP_getD (pre s) (ts.drop (frm ts s)) []
      rw [List.length_drop] at this
      simp only [Bool.not_not]
      exact this
    rw [hcnt] at hS
    exact hS
  have hLn : ∀ W, Below W0.heap.size W0 W → Calls Try.prog 16 #[p] W fun e w' => e = .returned (.int .i64 (ts.length : Nat)) ∧ w' = W := fun W hB => len_any W p ts (hN0.below hB)
  have hbg : bgn ts s = frm ts s + (ts.drop (frm ts s)).countP (pre s) := rfl
  rw [hbg]
  have hcl : (ts.drop (frm ts s)).countP (pre s) ≤ ts.length := Nat.le_trans List.countP_le_length (by simp)
  clear hN0 h hbg
  generalize (ts.drop (frm ts s)).countP (pre s) = c at *
  generalize frm ts s = r at *
  generalize ts.length = n at *
  have HW := hide hW0
  subst hp
  clear hW0
  go_enter Try.func19, Try.ntmps19
  go_wp2_with fail
  rw [← unhide HW]
  refine hF.mono ?_
  rintro e w1 ⟨rfl, hb1⟩
  go_wp2_with fail
  obtain ⟨V, hV⟩ : ∃ V, V = w1.alloc (.cells #[.int .i64 (r : Int)] 3) := ⟨_, rfl⟩
  rw [← hV]
  have hBV : Below W0.heap.size W0 V := by rw [hV]; exact hb1.alloc hb1.size _
  have cV : V.cell? ⟨w1.heap.size, 0, none⟩ = some (.int .i64 (r : Int)) := by rw [hV]; exact cell_new_sl w1 _ _
  have cdV : V.cell? ⟨w.heap.size, 0, none⟩ = some (.pointer ap) := (hBV.cell (World.block_lt_of_cell? _ _ cd)).trans cd
  have kL := hLn V.drew hBV.drew
  have kS := hS V.drew w1.heap.size hBV.drew cV
  obtain ⟨m, hm⟩ : ∃ m, n - r = m := ⟨_, rfl⟩
  have hsub : (n : Int) - (r : Int) = (m : Int) := by omega
  have hml : m ≤ 4096 := by omega
  have hwr : IntKind.i64.wrap (m : Int) = (m : Int) := by rw [IntKind.wrap_i64]; omega
  rw [hm] at kS
  have cG : ∀ q os, (grow (V.drewN q) os).cell? ⟨w1.heap.size, 0, none⟩ = some (.int .i64 (r : Int)) := fun q os => cell_grown (w := V) (World.block_lt_of_cell? _ _ cV) cV q os
  have hVs : V.heap.size = w1.heap.size + 1 := by rw [hV]; simp
  have hB1 := hb1.size
  clear hLn hS hF cd cs hm hV
  have HBV := hide hBV
  have H0 := hide hB0
  have CG := hide cG
  clear hBV hB0 hb1 cG
  go_cut [6, 7] (fun t6 t7 wA => t6 = .pointer (some ⟨w1.heap.size, 0, none⟩) ∧ t7 = .int .i64 (c : Int) ∧ wA.cell? ⟨w1.heap.size, 0, none⟩ = some (.int .i64 (r : Int)) ∧ Below w.heap.size w wA)
  case first =>
    go_region_with (first
      | (go_at_call 16; with_reducible refine kL.mono ?_; rintro e2 w2 ⟨rfl, rfl⟩)
      | (go_at_call 44; with_reducible refine kS.mono ?_; rintro e3 w3 ⟨rfl, q, os, rfl⟩))
    all_goals
      go_wp2_with fail
      go_meet
      case rel => exact ⟨rfl, rfl, unhide CG (1 + q) os, (unhide H0).trans (((unhide HBV).mono (by omega)).trans (below_grown_sl w.heap.size V (1 + q) os (by omega)))⟩
  case rest =>
    obtain ⟨rfl, rfl, cA, bA⟩ := hcut
    rename World => wA
    obtain ⟨rc, hr⟩ : ∃ rc, r + c = rc := ⟨_, rfl⟩
    have hrc : (r : Int) + (c : Int) = (rc : Int) := by omega
    have hrl : rc ≤ 8192 := by omega
    have HR := hide hr
    clear hr
    clear kL kS CG
    go_wp2_with fail
    go_quiet (fail)
    go_wp2
    go_ret2
    rw [unhide HR]
    exact ⟨rfl, below_dN bA _⟩
end Go.Proofs.Ytfhldldcfdimhaa
