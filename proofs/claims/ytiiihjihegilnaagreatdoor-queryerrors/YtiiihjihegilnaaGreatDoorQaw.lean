/- The contract of awake. -/
import Derived.Test.YtiiihjihegilnaaGreatDoorQch
import Derived.Test.YtiiihjihegilnaaGreatDoorQas
import Derived.Test.YtiiihjihegilnaaGreatDoorQcr
namespace Go.Proofs.YtiiihjihegilnaaGreatDoor
open Go.RowKit Go.Sort

/-- The handle of the type error, as it is laid. -/
def Hnd (w : World) : Prop := w.cell? ⟨0, 0, none⟩ = some (.iface 94 (.agg #[.pointer (some ⟨4, 36, none⟩)]))
theorem Hnd.up {w w' : World} (h : Hnd w) (b : Below w.heap.size w w') : Hnd w' := cell_up b h
def allT : Fi.Tr := .mk 1 0 (.slice none 0 0) [] 0 0 (.slice none 0 0) []
theorem allT_ok (w : World) : allT.Ok w := .mk (Rds.nil w) (RdsK.nil 6 w) (fun _ h => by cases h)
theorem allT_kids : allT.kids = [] := by simp [allT, Fi.Tr.kids, Fi.Tr.k]
theorem allT_may (D M : Int) : allT.may D M = true := by
  unfold Fi.Tr.may
  rw [Fi.Tr.sz_eq, Fi.Tr.dp_eq, Fi.Tr.fitA_eq, allT_kids]
  simp [Fi.szL, Fi.dpL, Fi.fitL, Fi.Tr.fit, allT, Fi.Tr.k]
/-- A query of all facts with these sets. -/
def qAll (v : Value) (l : List St) : Qm := ⟨0, 0, allT, 0, v, l, .slice none 0 0, [], 1, 0⟩
theorem qAll_ok {w : World} {v : Value} {l : List St} (h : RdsS w v l) : (qAll v l).Ok w := ⟨allT_ok w, h, RdsK.nil 2 w⟩
theorem qAll_look (D M : Int) (hf : Fx.finB D M = true) (v : Value) (l : List St) (k : Nat) (hk : k ≠ 4) : look D M (qAll v l) k = -1 := by
  rcases (by omega : k = 0 ∨ k = 1 ∨ k = 2 ∨ k = 3 ∨ k = 5 ∨ k = 6 ∨ k = 7 ∨ 8 ≤ k) with rfl | rfl | rfl | rfl | rfl | rfl | rfl | h
  · simp [look, hf, unl]
  · simp [look, qAll, unl]
  · simp only [look, qAll]; rw [allT_may]; rfl
  · simp [look, qAll, unl]
  · simp [look, qAll, wagg, idxL]
  · simp [look, qAll, unl]
  · simp [look, qAll, unl]
  · obtain ⟨m, rfl⟩ : ∃ m, k = m + 8 := ⟨k - 8, by omega⟩
    rfl
set_option maxRecDepth 100000 in
set_option maxHeartbeats 8000000 in
theorem awake_any (w : World) (hg : Hnd w) : Calls Tryz.prog 5 #[] w fun e w' => e = .returned (.bool true) ∧ Below w.heap.size w w' := by
  obtain ⟨W, hW⟩ : ∃ W, W = w.alloc (.cells #[.int .i64 0, .int .i64 0, .int .i64 1, .int .i64 0, .slice none 0 0, .int .i64 0, .int .i64 0, .slice none 0 0, .int .i64 0, .slice none 0 0, .slice none 0 0, .int .i64 1, .int .i64 0] 33) := ⟨_, rfl⟩
  have gW : Below w.heap.size w W := by rw [hW]; exact (Grows.alloc _ _).below
  have hq : ∀ c u, (#[Value.int .i64 0, .int .i64 0, .int .i64 1, .int .i64 0, .slice none 0 0, .int .i64 0, .int .i64 0, .slice none 0 0, .int .i64 0, .slice none 0 0, .slice none 0 0, .int .i64 1, .int .i64 0])[c]? = some u → W.cell? ⟨w.heap.size, c, none⟩ = some u := fun c u hu => by rw [hW]; exact al_new _ _ _ rfl hu
  have hfz : ∀ c, W.frozen? ⟨w.heap.size, c, none⟩ = false := fun c => by rw [hW]; simp
  have hlt : w.heap.size < W.heap.size := by rw [hW]; simp
  have kC := check_any W 0 0 (qAll (.slice none 0 0) []) (qAll_ok ⟨RdsK.nil 1 W, fun _ h => by cases h⟩) (by omega)
  have HW : Hid _ := hW
  have HQ : Aside _ := hq
  have HF : Aside _ := hfz
  have HG : Hid (Hnd W) := hg.up gW
  have HBW : Hid (Below w.heap.size w W) := gW
  rw [hW] at kC
  clear hg gW hq hfz hW
  go_enter Tryz.func5, Tryz.ntmps5
  go_wp2_with fail
  refine kC.mono ?_
  intro e U hT
  rw [← HW.out] at hT
  obtain ⟨hT, bU⟩ := hT
  rcases hT with ⟨hT, rfl⟩ | ⟨k, B, hk, hlow, hne, rfl, hB, q0, q1⟩
  · exact absurd (hT 4 (by omega)) (by simp [look, qAll, wset])
  · obtain rfl : k = 4 := by
      by_cases h4 : k = 4
      · exact h4
      · exact absurd (qAll_look 0 0 (by decide) _ _ k h4) hne
    have n4 : nam 4 = ⟨#[115, 101, 116, 115]⟩ := rfl
    have l4 : look 0 0 (qAll (.slice none 0 0) []) 4 = 0 := by simp [look, qAll, wset]
    rw [n4] at q0
    rw [l4] at q1
    clear n4 l4 hlow hne hk kC
    have hBl : B < U.heap.size := World.block_lt_of_cell? _ _ q0
    obtain ⟨V, hV⟩ : ∃ V, V = U.alloc (.cells #[.pointer none] 42) := ⟨_, rfl⟩
    have bV : Below U.heap.size U V := by rw [hV]; exact (Grows.alloc _ _).below
    have tV : V.cell? ⟨U.heap.size, 0, none⟩ = some (.pointer none) := by rw [hV]; simp
    have fV : V.frozen? ⟨U.heap.size, 0, none⟩ = false := by rw [hV]; simp
    have bWV : Below W.heap.size W V := bU.trans (bV.mono bU.size)
    have kI := is_wrong ⟨B, 0, none⟩ V
    have kA := as_wrong ⟨B, 0, none⟩ ⟨U.heap.size, 0, none⟩ (.pointer none) V (HG.out.up bWV) tV fV
    obtain ⟨X, hX⟩ : ∃ X, X = asW V ⟨U.heap.size, 0, none⟩ ⟨B, 0, none⟩ := ⟨_, rfl⟩
    rw [← hX] at kA
    have bX : Below U.heap.size U X := by
      rw [hX]; unfold asW
      exact Below.setCell (p := ⟨U.heap.size, 0, none⟩) ((((bV.alloc bV.size _).alloc (Nat.le_trans bV.size (by simp)) _).alloc (Nat.le_trans bV.size (by simp; omega)) _).alloc (Nat.le_trans bV.size (by simp; omega)) _) (Nat.le_refl _) _
    have tX : X.cell? ⟨U.heap.size, 0, none⟩ = some (.pointer (some ⟨B, 0, none⟩)) := by
      rw [hX]; unfold asW
      exact World.cell?_setCell_same _ _ _ (cell_grow (cell_grow (cell_grow (cell_grow tV _) _) _) _)
    have bWX : Below W.heap.size W X := bU.trans (bX.mono bU.size)
    have HX : Hid (Below W.heap.size W X ∧ X.cell? ⟨U.heap.size, 0, none⟩ = some (.pointer (some ⟨B, 0, none⟩)) ∧ X.cell? ⟨B, 0, none⟩ = some (.string ⟨#[115, 101, 116, 115]⟩) ∧ X.cell? ⟨B, 1, none⟩ = some (.int .i64 0)) := ⟨bWX, tX, by rw [bX.cell (by exact hBl)]; exact q0, by rw [bX.cell (by exact hBl)]; exact q1⟩
    have HUB : Hid (w.heap.size < U.heap.size ∧ w.heap.size < B ∧ B < U.heap.size) := ⟨by have := bU.size; omega, by omega, hBl⟩
    rw [hV] at kI kA
    clear bV tV fV bWV bX tX bWX hX hV bU q0 q1 hBl hB
    go_wp2_with fail
    refine kI.mono ?_
    rintro e w3 ⟨rfl, rfl⟩
    clear kI
    go_wp2_with fail
    refine kA.mono ?_
    rintro e X ⟨rfl, rfl⟩
    clear kA
    obtain ⟨bWX, tX, x0, x1⟩ := HX.out
    have hq9 : X.cell? ⟨w.heap.size, 9, none⟩ = some (.slice none 0 0) := by rw [bWX.cell (by exact hlt)]; exact HQ.out 9 _ rfl
    have hf9 : X.frozen? ⟨w.heap.size, 9, none⟩ = false := by rw [bWX.frozen (by exact hlt)]; exact HF.out 9
    have hlX : w.heap.size < X.heap.size := Nat.lt_of_lt_of_le hlt bWX.size
    obtain ⟨Y, hY⟩ : ∃ Y, Y = ((X.setCell ⟨w.heap.size, 9, none⟩ (.slice (some ⟨X.heap.size + 1, 0, none⟩) 1 1)).alloc (.cells #[] 3)).alloc (.cells #[.slice (some ⟨X.heap.size, 0, none⟩) 0 0] 55) := ⟨_, rfl⟩
    have oth : ∀ (g o : Nat) (u : Value), (g, o) ≠ (w.heap.size, 9) → X.cell? ⟨g, o, none⟩ = some u → Y.cell? ⟨g, o, none⟩ = some u := fun g o u hg hc => by
      rw [hY]
      exact cell_grow (cell_grow (by rw [World.cell?_setCell_other _ _ _ _ (fun e => hg (by cases e; rfl))]; exact hc) _) _
    have y0 : Y.cell? ⟨w.heap.size, 0, none⟩ = some (.int .i64 0) := oth _ _ _ (by simp) (by rw [bWX.cell (by exact hlt)]; exact HQ.out 0 _ rfl)
    have y1 : Y.cell? ⟨w.heap.size, 1, none⟩ = some (.int .i64 0) := oth _ _ _ (by simp) (by rw [bWX.cell (by exact hlt)]; exact HQ.out 1 _ rfl)
    have y2 : Y.cell? ⟨w.heap.size, 2, none⟩ = some (.int .i64 1) := oth _ _ _ (by simp) (by rw [bWX.cell (by exact hlt)]; exact HQ.out 2 _ rfl)
    have y3 : Y.cell? ⟨w.heap.size, 3, none⟩ = some (.int .i64 0) := oth _ _ _ (by simp) (by rw [bWX.cell (by exact hlt)]; exact HQ.out 3 _ rfl)
    have y4 : Y.cell? ⟨w.heap.size, 4, none⟩ = some (.slice none 0 0) := oth _ _ _ (by simp) (by rw [bWX.cell (by exact hlt)]; exact HQ.out 4 _ rfl)
    have y5 : Y.cell? ⟨w.heap.size, 5, none⟩ = some (.int .i64 0) := oth _ _ _ (by simp) (by rw [bWX.cell (by exact hlt)]; exact HQ.out 5 _ rfl)
    have y6 : Y.cell? ⟨w.heap.size, 6, none⟩ = some (.int .i64 0) := oth _ _ _ (by simp) (by rw [bWX.cell (by exact hlt)]; exact HQ.out 6 _ rfl)
    have y7 : Y.cell? ⟨w.heap.size, 7, none⟩ = some (.slice none 0 0) := oth _ _ _ (by simp) (by rw [bWX.cell (by exact hlt)]; exact HQ.out 7 _ rfl)
    have y8 : Y.cell? ⟨w.heap.size, 8, none⟩ = some (.int .i64 0) := oth _ _ _ (by simp) (by rw [bWX.cell (by exact hlt)]; exact HQ.out 8 _ rfl)
    have y9 : Y.cell? ⟨w.heap.size, 9, none⟩ = some (.slice (some ⟨X.heap.size + 1, 0, none⟩) 1 1) := by rw [hY]; exact cell_grow (cell_grow (World.cell?_setCell_same _ _ _ hq9) _) _
    have y10 : Y.cell? ⟨w.heap.size, 10, none⟩ = some (.slice none 0 0) := oth _ _ _ (by simp) (by rw [bWX.cell (by exact hlt)]; exact HQ.out 10 _ rfl)
    have y11 : Y.cell? ⟨w.heap.size, 11, none⟩ = some (.int .i64 1) := oth _ _ _ (by simp) (by rw [bWX.cell (by exact hlt)]; exact HQ.out 11 _ rfl)
    have y12 : Y.cell? ⟨w.heap.size, 12, none⟩ = some (.int .i64 0) := oth _ _ _ (by simp) (by rw [bWX.cell (by exact hlt)]; exact HQ.out 12 _ rfl)
    have rS : RdsS Y (.slice (some ⟨X.heap.size + 1, 0, none⟩) 1 1) [(.slice (some ⟨X.heap.size, 0, none⟩) 0 0, [])] := by
      refine ⟨by rw [hY]; exact one_rdI _ _ _ _ (by simp), fun s hs => ?_⟩
      rw [List.mem_singleton.1 hs]
      exact ⟨some ⟨X.heap.size, 0, none⟩, 0, rfl, Nat.le_refl _, Nat.zero_le _, (fun h => by cases h), fun _ _ j u hj => by simp [iv] at hj⟩
    have bY : Below w.heap.size w Y := by
      have b1 : Below w.heap.size w (X.setCell ⟨w.heap.size, 9, none⟩ (.slice (some ⟨X.heap.size + 1, 0, none⟩) 1 1)) := (HBW.out.trans (bWX.mono HBW.out.size)).setCell (p := ⟨w.heap.size, 9, none⟩) (Nat.le_refl _) _
      have b2 := b1.alloc b1.size (.cells #[] 3)
      rw [hY]
      exact b2.alloc b2.size _
    obtain ⟨hu1, hu2, hu3⟩ := HUB.out
    have HY : Hid (Y.cell? ⟨U.heap.size, 0, none⟩ = some (.pointer (some ⟨B, 0, none⟩)) ∧ Y.cell? ⟨B, 0, none⟩ = some (.string ⟨#[115, 101, 116, 115]⟩) ∧ Y.cell? ⟨B, 1, none⟩ = some (.int .i64 0) ∧ Below w.heap.size w Y) := ⟨oth _ _ _ (fun e => by have := (Prod.mk.inj e).1; omega) tX, oth _ _ _ (fun e => by have := (Prod.mk.inj e).1; omega) x0, oth _ _ _ (fun e => by have := (Prod.mk.inj e).1; omega) x1, bY⟩
    have kC2 := check_any Y 0 0 (qAll (.slice (some ⟨X.heap.size + 1, 0, none⟩) 1 1) [(.slice (some ⟨X.heap.size, 0, none⟩) 0 0, [])]) (qAll_ok rS) (by omega)
    have HYE : Hid _ := hY
    clear hY rS bY oth tX x0 x1 bWX HX
    go_upto_region 7 with fail
    rw [← HYE.out]
    go_wp2_with fail
    refine kC2.mono ?_
    intro e Z hT
    obtain ⟨hT, bZ⟩ := hT
    rcases hT with ⟨hT, rfl⟩ | ⟨k, B', hk, hlow, hne, rfl, hB', _, _⟩
    · obtain ⟨t0, t1, t2, bY⟩ := HY.out
      have t0 := cell_up bZ t0
      have t1 := cell_up bZ t1
      have t2 := cell_up bZ t2
      obtain ⟨Z1, hZ1⟩ : ∃ Z1, Z1 = Z.alloc (.cells #[.int .i64 0, .int .i64 2] 3) := ⟨_, rfl⟩
      have rD : Rds Z1 (.slice (some ⟨Z.heap.size, 0, none⟩) 2 2) (iv [0, 2]) := by
        rw [hZ1]
        exact rds_own1 (own_full Z 3 #[.int .i64 0, .int .i64 2] 2 (by decide) rfl)
      have kQ := cube_any Z1 _ [0, 2] rD (by decide)
      have HZ : Hid (Below w.heap.size w Z1) := by
        rw [hZ1]
        exact (bY.trans (bZ.mono bY.size)).alloc (bY.trans (bZ.mono bY.size)).size _
      have HZ1 : Hid _ := hZ1
      rw [hZ1] at kQ
      clear kC2 bZ bY rD hZ1 hT y0 y1 y2 y3 y4 y5 y6 y7 y8 y9 y10 y11 y12 hq9 hf9
      go_wp2_with fail
      refine kQ.mono ?_
      rintro e T ⟨v', rfl, l, ow, hs, bT⟩
      rw [← HZ1.out] at bT
      obtain ⟨a9, n9, c9, h9⟩ := own_sl ow.own
      subst h9
      have hn9 : n9 = 4 := by
        have h1 := ow.rds.at.1
        have h2 := congrArg List.length hs
        simp only [snds, List.length_map] at h2
        rw [h1, h2]; rfl
      subst hn9
      have HT : Hid (Below w.heap.size w T) := HZ.out.trans (bT.mono HZ.out.size)
      clear kQ ow hs bT
      go_wp2_with fail
      go_ret
      exact ⟨rfl, HT.out⟩
    · exfalso
      apply hne
      by_cases h4 : k = 4
      · subst h4; simp [look, qAll, wset, idxL, setP, risB]
      · exact qAll_look 0 0 (by decide) _ _ k h4
end Go.Proofs.YtiiihjihegilnaaGreatDoor
