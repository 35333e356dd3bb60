/- The walk of QueryErrors. -/
import Derived.Test.YtiiihjihegilnaaGreatDoorQel
import Derived.Test.YtiiihjihegilnaaGreatDoorQcw
import Derived.LaidEqlPtr
namespace Go.Proofs.YtiiihjihegilnaaGreatDoor
open Go.RowKit Go.Sort

theorem neq_same {P : Program} {tp te : TypeId} {j : TypeInfo} (a : Addr) (w : World) (hp : P.underlying tp = some (.pointer te)) (hte : P.info? te = some j) :
    (binOp .neq tp (.pointer (some a)) (.pointer (some a))).run P w = .ok (.bool false) w := by
  have h : ∀ d : Nat, (Op.equalIn (d + 1) tp (.pointer (some a)) (.pointer (some a))).run P w = .ok true w := fun d => by
    simp [Op.equalIn, run_underlying hp, sizeOf, typeInfo, hte, run_sameAddr_same]
  simp only [binOp]
  simp [Op.equal, Op.maxDepth, h 9999]
theorem infoW : ∃ j, Tryz.prog.info? 47 = some j := by
  have h : (Tryz.prog.info? 47).isSome = true := by kernel_rfl
  exact Option.isSome_iff_exists.1 h
theorem neg_mod (d : Int) (h : d < 0) : -((d + 1).tmod 20) = (-(d + 1)) % 20 := by
  rw [← Int.neg_tmod, Int.tmod_eq_emod_of_nonneg (by omega)]
theorem deep_mod (d : Int) (_h1 : -9223372036854775808 ≤ d) (_h2 : d ≤ 9223372036854775807) : ∃ m : Nat, m < 20 ∧ (if d < 0 then -(d + 1) else d) % 20 = (m : Int) := by
  refine ⟨((if d < 0 then -(d + 1) else d) % 20).toNat, ?_, ?_⟩ <;> split <;> omega
set_option maxRecDepth 100000 in
set_option maxHeartbeats 8000000 in
theorem errors_walk (w : World) (s : ByteArray) (x : Int) (_hx : -9223372036854775808 ≤ x ∧ x ≤ 9223372036854775807) (d : Int) (hd : -9223372036854775808 ≤ d ∧ d ≤ 9223372036854775807) (c : Int) (_hc : -9223372036854775808 ≤ c ∧ c ≤ 9223372036854775807) (hg : Hnd w) :
    Calls Tryz.prog 4 #[.string s, .int .i64 x, .int .i64 d, .int .i64 c] w fun e w' => e = .returned (.bool true) ∧ Below w.heap.size w w' := by
  obtain ⟨m, hm, hmod⟩ := deep_mod d hd.1 hd.2
  obtain ⟨hd1, hd2⟩ := hd
  have HH : Hid (Hnd w) := hg
  clear hg
  by_cases hneg : d < 0
  · rw [if_pos hneg] at hmod
    have hw1 : IntKind.i64.wrap (d + 1) = d + 1 := by rw [IntWalk.i64_left]; exact IntWalk.wrap64_in _ (by omega)
    have hw2 : IntKind.i64.wrap (-(d + 1)) = -(d + 1) := by rw [IntWalk.i64_left]; exact IntWalk.wrap64_in _ (by omega)
    rw [← neg_mod d hneg] at hmod
    go_enter Tryz.func4, Tryz.ntmps4
    go_wp2_with fail
    refine (awake_any w HH.out).mono ?_
    rintro e w1 ⟨rfl, b1⟩
    have HG1 : Hid (Below w.heap.size w w1) := b1
    clear b1
    go_wp2_with fail
    refine (new_any _ _).mono ?_
    rintro e w2 ⟨rfl, hw2⟩
    have G2 : Grows w1 w2 := by rw [hw2]; exact (Grows.alloc _ _).trans (Grows.alloc _ _)
    have HG2 : Hid (Below w.heap.size w w2) := HG1.out.trans (G2.below.mono HG1.out.size)
    have hz2 : (w1.alloc (.cells #[.string s, .int .i64 x] 47)).heap.size = w1.heap.size + 1 := by simp
    rw [hz2]
    clear hz2 hw2 G2
    go_wp2_with fail
    go_loopg [11, 12, 13, 14] m (fun kx v11 v12 v13 v14 wr => ∃ (i : Nat), v14 = .int .i64 (i : Int) ∧ v11 = chn (.iface 42 (.pointer (some ⟨w1.heap.size, 0, none⟩))) i ∧ v12 = chn (.iface 40 (.int .i64 c)) i ∧ v13 = chn (.iface 83 (.pointer (some ⟨w1.heap.size + 1, 0, none⟩))) i ∧ i ≤ m ∧ m - i ≤ kx ∧ Hid (wr = w2))
    case atStart => exact ⟨0, rfl, rfl, rfl, rfl, by omega, Nat.le_refl _, rfl⟩
    case round =>
      obtain ⟨i, rfl, rfl, rfl, rfl, hi, hkx, HW⟩ := hrel
      obtain rfl := HW.out
      by_cases hlt : i < m
      · have hltz : (i : Int) < (m : Int) := by omega
        obtain ⟨t1, y1, e1⟩ := chn_is (v := .iface 42 (.pointer (some ⟨w1.heap.size, 0, none⟩))) ⟨_, _, rfl⟩ i
        obtain ⟨t2, y2, e2⟩ := chn_is (v := .iface 40 (.int .i64 c)) ⟨_, _, rfl⟩ i
        obtain ⟨t3, y3, e3⟩ := chn_is (v := .iface 83 (.pointer (some ⟨w1.heap.size + 1, 0, none⟩))) ⟨_, _, rfl⟩ i
        have E1 : Hid _ := e1
        have E2 : Hid _ := e2
        have E3 : Hid _ := e3
        rw [e1, e2, e3]
        clear e1 e2 e3
        go_wp2_with fail
        go_roundg (m - (i + 1))
        case measure => omega
        case rel => exact ⟨i + 1, by go_num, by simp only [chn]; rw [E1.out], by simp only [chn]; rw [E2.out], by simp only [chn]; rw [E3.out], by omega, Nat.le_refl _, rfl⟩
      · have hltz : ¬ (i : Int) < (m : Int) := by omega
        obtain rfl : i = m := by omega
        obtain ⟨V, hV⟩ : ∃ V, V = wr.alloc (.cells #[.pointer none] 42) := ⟨_, rfl⟩
        have HV : Hid (V = _) := hV
        have HGV : Hid (Below w.heap.size w V) := by rw [hV]; exact HG2.out.trans ((Grows.alloc _ _).below.mono HG2.out.size)
        have HT : Hid (V.cell? ⟨wr.heap.size, 0, none⟩ = some (.pointer none) ∧ V.frozen? ⟨wr.heap.size, 0, none⟩ = false) := by rw [hV]; exact ⟨by simp, by simp⟩
        have kI : Calls Tryz.prog 9 #[chn (.iface 42 (.pointer (some ⟨w1.heap.size, 0, none⟩))) i, .iface 40 (.int .i64 80)] V _ := isA_80 ⟨w1.heap.size, 0, none⟩ (i + 1) V
        rw [hV] at kI
        clear hV
        obtain ⟨t1, y1, e1⟩ := chn_is (v := .iface 42 (.pointer (some ⟨w1.heap.size, 0, none⟩))) ⟨_, _, rfl⟩ i
        obtain ⟨t2, y2, e2⟩ := chn_is (v := .iface 40 (.int .i64 c)) ⟨_, _, rfl⟩ i
        obtain ⟨t3, y3, e3⟩ := chn_is (v := .iface 83 (.pointer (some ⟨w1.heap.size + 1, 0, none⟩))) ⟨_, _, rfl⟩ i
        have E1 : Hid _ := e1
        have E2 : Hid _ := e2
        have E3 : Hid _ := e3
        rw [e1] at kI
        rw [e1, e2, e3]
        clear e1 e2 e3
        go_wp2_with fail
        refine kI.mono ?_
        rintro ev w4 ⟨rfl, g4⟩
        rw [← HV.out] at g4
        have HG4 : Hid (Below w.heap.size w w4) := HGV.out.trans (g4.below.mono HGV.out.size)
        have HT4 : Hid (w4.cell? ⟨wr.heap.size, 0, none⟩ = some (.pointer none) ∧ w4.frozen? ⟨wr.heap.size, 0, none⟩ = false) := ⟨cell_up g4.below HT.out.1, by rw [g4.below.frozen (World.block_lt_of_cell? _ _ HT.out.1)]; exact HT.out.2⟩
        have kA := asA_W ⟨w1.heap.size, 0, none⟩ ⟨wr.heap.size, 0, none⟩ (.pointer none) i w4 (HH.out.up HG4.out) HT4.out.1 HT4.out.2
        rw [E1.out] at kA
        clear kI g4
        go_wp2_with fail
        refine kA.mono ?_
        rintro ev w5' ⟨rfl, X, gX, hw5⟩
        have bX : Below w.heap.size w X := HG4.out.trans (gX.below.mono HG4.out.size)
        have hp : w.heap.size ≤ wr.heap.size := HG2.out.size
        have xc : X.cell? ⟨wr.heap.size, 0, none⟩ = some (.pointer none) := cell_up gX.below HT4.out.1
        have HG5 : Hid (Below w.heap.size w w5') := by rw [hw5]; exact bX.setCell (p := ⟨wr.heap.size, 0, none⟩) hp _
        have HT5 : Hid (w5'.cell? ⟨wr.heap.size, 0, none⟩ = some (.pointer (some ⟨w1.heap.size, 0, none⟩))) := by rw [hw5]; exact World.cell?_setCell_same _ _ _ xc
        clear kA gX hw5 bX hp xc
        have kI2 : Calls Tryz.prog 9 #[chn (.iface 42 (.pointer (some ⟨w1.heap.size, 0, none⟩))) i, .iface 40 (.int .i64 90)] w5' _ := isA_90 ⟨w1.heap.size, 0, none⟩ (i + 1) w5'
        rw [E1.out] at kI2
        go_wp2_with fail
        refine kI2.mono ?_
        rintro ev w6 ⟨rfl, g6⟩
        have HG6 : Hid (Below w.heap.size w w6) := HG5.out.trans (g6.below.mono HG5.out.size)
        have HT6 : Hid (w6.cell? ⟨wr.heap.size, 0, none⟩ = some (.pointer (some ⟨w1.heap.size, 0, none⟩))) := cell_up g6.below HT5.out
        clear kI2 g6
        go_wp2_with fail
        refine (unwrap_none w6).mono ?_
        rintro ev w6' ⟨rfl, rfl⟩
        have kI3 := isA_80 ⟨0, 0, none⟩ 0 w6'
        go_wp2_with fail
        refine kI3.mono ?_
        rintro ev w7 ⟨rfl, g7⟩
        have HG7 : Hid (Below w.heap.size w w7) := HG6.out.trans (g7.below.mono HG6.out.size)
        have t7 : w7.cell? ⟨wr.heap.size, 0, none⟩ = some (.pointer (some ⟨w1.heap.size, 0, none⟩)) := cell_up g7.below HT6.out
        clear kI3 g7
        obtain ⟨jw, hjw⟩ := infoW
        have hne0 := neq_same (P := Tryz.prog) ⟨w1.heap.size, 0, none⟩ w7 Tryz.underlying42 hjw
        clear hjw
        go_wp2_with fail
        refine (error_none w7).mono ?_
        rintro ev w7' ⟨⟨t, rfl, hne⟩, rfl⟩
        have r5 : ¬ t.toList = [] := ba_ne hne
        have r2 : (t.toList == (⟨#[]⟩ : ByteArray).toList) = false := by rw [beq_eq_false_iff_ne, ba_nil]; exact r5
        have r3 : (t.toList == []) = false := by rw [beq_eq_false_iff_ne]; exact r5
        have r4 : t.toList.isEmpty = false := by cases hh : t.toList with | nil => exact absurd hh r5 | cons a l => rfl
        have kC := code_set (chn (.iface 42 (.pointer (some ⟨w1.heap.size, 0, none⟩))) i) 80 w7' (chn_is ⟨_, _, rfl⟩ i) (finds_E ⟨w1.heap.size, 0, none⟩ (i + 1)) (HH.out.up HG7.out)
        rw [E1.out] at kC
        go_wp2_with fail
        refine kC.mono ?_
        rintro ev w8 ⟨rfl, b8⟩
        have HG8 : Hid (Below w.heap.size w w8) := HG7.out.trans (b8.mono HG7.out.size)
        clear kC b8
        have kC2 := code_set (chn (.iface 40 (.int .i64 c)) i) c w8 (chn_is ⟨_, _, rfl⟩ i) (finds_N c i) (HH.out.up HG8.out)
        rw [E2.out] at kC2
        go_wp2_with fail
        refine kC2.mono ?_
        rintro ev w9 ⟨rfl, b9⟩
        have HG9 : Hid (Below w.heap.size w w9) := HG8.out.trans (b9.mono HG8.out.size)
        clear kC2 b9
        have kC3 := code_no (chn (.iface 83 (.pointer (some ⟨w1.heap.size + 1, 0, none⟩))) i) w9 (chn_is ⟨_, _, rfl⟩ i) (finds_S _ i) (HH.out.up HG9.out)
        rw [E3.out] at kC3
        go_wp2_with fail
        refine kC3.mono ?_
        rintro ev w10 ⟨rfl, b10⟩
        have HG10 : Hid (Below w.heap.size w w10) := HG9.out.trans (b10.mono HG9.out.size)
        clear kC3 b10
        have kN := code_nil w10
        go_wp2_with fail
        refine kN.mono ?_
        rintro ev w11 ⟨rfl, rfl⟩
        go_wp2_with fail
        go_ret
        exact ⟨rfl, HG10.out⟩
  · rw [if_neg hneg] at hmod
    have hnn : 0 ≤ d := by omega
    go_enter Tryz.func4, Tryz.ntmps4
    go_wp2_with fail
    refine (awake_any w HH.out).mono ?_
    rintro e w1 ⟨rfl, b1⟩
    have HG1 : Hid (Below w.heap.size w w1) := b1
    clear b1
    go_wp2_with fail
    refine (new_any _ _).mono ?_
    rintro e w2 ⟨rfl, hw2⟩
    have G2 : Grows w1 w2 := by rw [hw2]; exact (Grows.alloc _ _).trans (Grows.alloc _ _)
    have HG2 : Hid (Below w.heap.size w w2) := HG1.out.trans (G2.below.mono HG1.out.size)
    have hz2 : (w1.alloc (.cells #[.string s, .int .i64 x] 47)).heap.size = w1.heap.size + 1 := by simp
    rw [hz2]
    clear hz2 hw2 G2
    go_wp2_with fail
    go_loopg [11, 12, 13, 14] m (fun kx v11 v12 v13 v14 wr => ∃ (i : Nat), v14 = .int .i64 (i : Int) ∧ v11 = chn (.iface 42 (.pointer (some ⟨w1.heap.size, 0, none⟩))) i ∧ v12 = chn (.iface 40 (.int .i64 c)) i ∧ v13 = chn (.iface 83 (.pointer (some ⟨w1.heap.size + 1, 0, none⟩))) i ∧ i ≤ m ∧ m - i ≤ kx ∧ Hid (wr = w2))
    case atStart => exact ⟨0, rfl, rfl, rfl, rfl, by omega, Nat.le_refl _, rfl⟩
    case round =>
      obtain ⟨i, rfl, rfl, rfl, rfl, hi, hkx, HW⟩ := hrel
      obtain rfl := HW.out
      by_cases hlt : i < m
      · have hltz : (i : Int) < (m : Int) := by omega
        obtain ⟨t1, y1, e1⟩ := chn_is (v := .iface 42 (.pointer (some ⟨w1.heap.size, 0, none⟩))) ⟨_, _, rfl⟩ i
        obtain ⟨t2, y2, e2⟩ := chn_is (v := .iface 40 (.int .i64 c)) ⟨_, _, rfl⟩ i
        obtain ⟨t3, y3, e3⟩ := chn_is (v := .iface 83 (.pointer (some ⟨w1.heap.size + 1, 0, none⟩))) ⟨_, _, rfl⟩ i
        have E1 : Hid _ := e1
        have E2 : Hid _ := e2
        have E3 : Hid _ := e3
        rw [e1, e2, e3]
        clear e1 e2 e3
        go_wp2_with fail
        go_roundg (m - (i + 1))
        case measure => omega
        case rel => exact ⟨i + 1, by go_num, by simp only [chn]; rw [E1.out], by simp only [chn]; rw [E2.out], by simp only [chn]; rw [E3.out], by omega, Nat.le_refl _, rfl⟩
      · have hltz : ¬ (i : Int) < (m : Int) := by omega
        obtain rfl : i = m := by omega
        obtain ⟨V, hV⟩ : ∃ V, V = wr.alloc (.cells #[.pointer none] 42) := ⟨_, rfl⟩
        have HV : Hid (V = _) := hV
        have HGV : Hid (Below w.heap.size w V) := by rw [hV]; exact HG2.out.trans ((Grows.alloc _ _).below.mono HG2.out.size)
        have HT : Hid (V.cell? ⟨wr.heap.size, 0, none⟩ = some (.pointer none) ∧ V.frozen? ⟨wr.heap.size, 0, none⟩ = false) := by rw [hV]; exact ⟨by simp, by simp⟩
        have kI : Calls Tryz.prog 9 #[chn (.iface 42 (.pointer (some ⟨w1.heap.size, 0, none⟩))) i, .iface 40 (.int .i64 80)] V _ := isA_80 ⟨w1.heap.size, 0, none⟩ (i + 1) V
        rw [hV] at kI
        clear hV
        obtain ⟨t1, y1, e1⟩ := chn_is (v := .iface 42 (.pointer (some ⟨w1.heap.size, 0, none⟩))) ⟨_, _, rfl⟩ i
        obtain ⟨t2, y2, e2⟩ := chn_is (v := .iface 40 (.int .i64 c)) ⟨_, _, rfl⟩ i
        obtain ⟨t3, y3, e3⟩ := chn_is (v := .iface 83 (.pointer (some ⟨w1.heap.size + 1, 0, none⟩))) ⟨_, _, rfl⟩ i
        have E1 : Hid _ := e1
        have E2 : Hid _ := e2
        have E3 : Hid _ := e3
        rw [e1] at kI
        rw [e1, e2, e3]
        clear e1 e2 e3
        go_wp2_with fail
        refine kI.mono ?_
        rintro ev w4 ⟨rfl, g4⟩
        rw [← HV.out] at g4
        have HG4 : Hid (Below w.heap.size w w4) := HGV.out.trans (g4.below.mono HGV.out.size)
        have HT4 : Hid (w4.cell? ⟨wr.heap.size, 0, none⟩ = some (.pointer none) ∧ w4.frozen? ⟨wr.heap.size, 0, none⟩ = false) := ⟨cell_up g4.below HT.out.1, by rw [g4.below.frozen (World.block_lt_of_cell? _ _ HT.out.1)]; exact HT.out.2⟩
        have kA := asA_W ⟨w1.heap.size, 0, none⟩ ⟨wr.heap.size, 0, none⟩ (.pointer none) i w4 (HH.out.up HG4.out) HT4.out.1 HT4.out.2
        rw [E1.out] at kA
        clear kI g4
        go_wp2_with fail
        refine kA.mono ?_
        rintro ev w5' ⟨rfl, X, gX, hw5⟩
        have bX : Below w.heap.size w X := HG4.out.trans (gX.below.mono HG4.out.size)
        have hp : w.heap.size ≤ wr.heap.size := HG2.out.size
        have xc : X.cell? ⟨wr.heap.size, 0, none⟩ = some (.pointer none) := cell_up gX.below HT4.out.1
        have HG5 : Hid (Below w.heap.size w w5') := by rw [hw5]; exact bX.setCell (p := ⟨wr.heap.size, 0, none⟩) hp _
        have HT5 : Hid (w5'.cell? ⟨wr.heap.size, 0, none⟩ = some (.pointer (some ⟨w1.heap.size, 0, none⟩))) := by rw [hw5]; exact World.cell?_setCell_same _ _ _ xc
        clear kA gX hw5 bX hp xc
        have kI2 : Calls Tryz.prog 9 #[chn (.iface 42 (.pointer (some ⟨w1.heap.size, 0, none⟩))) i, .iface 40 (.int .i64 90)] w5' _ := isA_90 ⟨w1.heap.size, 0, none⟩ (i + 1) w5'
        rw [E1.out] at kI2
        go_wp2_with fail
        refine kI2.mono ?_
        rintro ev w6 ⟨rfl, g6⟩
        have HG6 : Hid (Below w.heap.size w w6) := HG5.out.trans (g6.below.mono HG5.out.size)
        have HT6 : Hid (w6.cell? ⟨wr.heap.size, 0, none⟩ = some (.pointer (some ⟨w1.heap.size, 0, none⟩))) := cell_up g6.below HT5.out
        clear kI2 g6
        go_wp2_with fail
        refine (unwrap_none w6).mono ?_
        rintro ev w6' ⟨rfl, rfl⟩
        have kI3 := isA_80 ⟨0, 0, none⟩ 0 w6'
        go_wp2_with fail
        refine kI3.mono ?_
        rintro ev w7 ⟨rfl, g7⟩
        have HG7 : Hid (Below w.heap.size w w7) := HG6.out.trans (g7.below.mono HG6.out.size)
        have t7 : w7.cell? ⟨wr.heap.size, 0, none⟩ = some (.pointer (some ⟨w1.heap.size, 0, none⟩)) := cell_up g7.below HT6.out
        clear kI3 g7
        obtain ⟨jw, hjw⟩ := infoW
        have hne0 := neq_same (P := Tryz.prog) ⟨w1.heap.size, 0, none⟩ w7 Tryz.underlying42 hjw
        clear hjw
        go_wp2_with fail
        refine (error_none w7).mono ?_
        rintro ev w7' ⟨⟨t, rfl, hne⟩, rfl⟩
        have r5 : ¬ t.toList = [] := ba_ne hne
        have r2 : (t.toList == (⟨#[]⟩ : ByteArray).toList) = false := by rw [beq_eq_false_iff_ne, ba_nil]; exact r5
        have r3 : (t.toList == []) = false := by rw [beq_eq_false_iff_ne]; exact r5
        have r4 : t.toList.isEmpty = false := by cases hh : t.toList with | nil => exact absurd hh r5 | cons a l => rfl
        have kC := code_set (chn (.iface 42 (.pointer (some ⟨w1.heap.size, 0, none⟩))) i) 80 w7' (chn_is ⟨_, _, rfl⟩ i) (finds_E ⟨w1.heap.size, 0, none⟩ (i + 1)) (HH.out.up HG7.out)
        rw [E1.out] at kC
        go_wp2_with fail
        refine kC.mono ?_
        rintro ev w8 ⟨rfl, b8⟩
        have HG8 : Hid (Below w.heap.size w w8) := HG7.out.trans (b8.mono HG7.out.size)
        clear kC b8
        have kC2 := code_set (chn (.iface 40 (.int .i64 c)) i) c w8 (chn_is ⟨_, _, rfl⟩ i) (finds_N c i) (HH.out.up HG8.out)
        rw [E2.out] at kC2
        go_wp2_with fail
        refine kC2.mono ?_
        rintro ev w9 ⟨rfl, b9⟩
        have HG9 : Hid (Below w.heap.size w w9) := HG8.out.trans (b9.mono HG8.out.size)
        clear kC2 b9
        have kC3 := code_no (chn (.iface 83 (.pointer (some ⟨w1.heap.size + 1, 0, none⟩))) i) w9 (chn_is ⟨_, _, rfl⟩ i) (finds_S _ i) (HH.out.up HG9.out)
        rw [E3.out] at kC3
        go_wp2_with fail
        refine kC3.mono ?_
        rintro ev w10 ⟨rfl, b10⟩
        have HG10 : Hid (Below w.heap.size w w10) := HG9.out.trans (b10.mono HG9.out.size)
        clear kC3 b10
        have kN := code_nil w10
        go_wp2_with fail
        refine kN.mono ?_
        rintro ev w11 ⟨rfl, rfl⟩
        go_wp2_with fail
        go_ret
        exact ⟨rfl, HG10.out⟩
end Go.Proofs.YtiiihjihegilnaaGreatDoor
