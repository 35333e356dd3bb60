/- NetOnce's walk. -/
import Derived.Test.YtnkllgpibmofiaaOsW
import Derived.Test.YtnkllgpibmofiaaNsw
import Derived.Deep.LoopGhost
namespace Go.Proofs.Ytnkllgpibmofiaa
open Go.RowKit Go.Maps Go.Sort
set_option linter.unusedVariables false

theorem cell_upB {w w' : World} (h : Below w.heap.size w w') {a : Addr} {v : Value} (hc : w.cell? a = some v) : w'.cell? a = some v := by rw [h.cell (World.block_lt_of_cell? _ _ hc)]; exact hc
set_option maxRecDepth 20000 in
set_option maxHeartbeats 4000000 in
theorem once_walk (w : World) (v0 : Value) (L : List Op3) (h : OpsR w v0 L) :
    Calls Try.prog 6 #[v0] w fun e w' => e = .returned (.bool true) ∧ Below w.heap.size w w' := by
  obtain ⟨ao, cap, hv, hc1, hc2, hat⟩ := h.ex
  subst hv
  obtain ⟨N, hn⟩ : ∃ n, n = L.length := ⟨_, rfl⟩
  rw [← hn] at hc1 ⊢
  have HN := hide hn
  have HAT := hide hat
  have HBD := hide h.bd
  have hmm := @run_makeMap Try.prog
  unfold maxLen at hc2
  clear h hat hn
  go_enter Try.func6, Try.ntmps6
  go_wp2_with (go_at_call 8; refine (awake_any w).mono ?_; rintro e w1 ⟨he1, hb1⟩; subst he1; have HB1 := hide hb1; clear hb1)
  go_at_call 9
  refine (netNew_any w1).mono ?_
  rintro e w2 ⟨he2, hn2, hb2⟩
  subst he2
  have HN2 := hide hn2
  have HB2 := hide hb2
  obtain ⟨n, hn⟩ : ∃ n, n = w1.heap.size := ⟨_, rfl⟩
  have HNN := hide hn
  rw [← hn] at hn2 ⊢
  have HN2 := hide hn2
  clear hn2 hb2 hn
  go_wp2_with fail
  have HBM : Hid (∀ m k D, OwM w2 m k D → m < w2.heap.size) := hide fun m k D h => h.lt
  obtain ⟨ms, hms⟩ : ∃ m, m = w2.heap.size := ⟨_, rfl⟩
  have hOS : OS w ((w2.alloc (.map #[] 0)).alloc (.map #[] 0)) n ms (ms + 1) 0 := by
    have hb3 : Below w2.heap.size w2 ((w2.alloc (.map #[] 0)).alloc (.map #[] 0)) := ((Below.refl _ _).alloc (Nat.le_refl _) _).alloc (by simp) _
    have q1 := HB1.out.size
    have q2 := HB2.out.size
    have q3 := HN2.out.lt n rfl
    have o1 : OwM ((w2.alloc (.map #[] 0)).alloc (.map #[] 0)) ms 0 (.map []) := by
      rw [hms]
      exact map_frame (World.ownsMap_made w2 _ _ _) (by rw [Below.heap_alloc _ _ _ (by simp)])
    have o2 : OwM ((w2.alloc (.map #[] 0)).alloc (.map #[] 0)) (ms + 1) 0 (.map []) := by
      have h0 := World.ownsMap_made (H := Unit) (w2.alloc (.map #[] 0)) Try.prog 28 (plainElem Try.prog 3)
      rw [show (w2.alloc (.map #[] 0)).heap.size = ms + 1 by rw [hms]; simp] at h0
      exact h0
    exact ⟨_, 0, _, [], fun _ => 0, fun _ => 0, 0, 0, _, _, HN2.out.below hb3, (fun _ h => by cases h), o1, MFn.nil, MTo.nil, o2, MFn.nil, OInv.start, ⟨Nat.le_refl _, Nat.le_refl _⟩, (fun h => by rw [hms] at h; omega), (fun h => by rw [hms] at h; omega), by omega, (fun j hj => by rw [hj, HNN.out]; omega), by omega, (HB1.out.trans (HB2.out.mono q1)).trans (hb3.mono (by omega))⟩
  have HOS := hide hOS
  clear hOS
  rw [← hms]
  clear hms
  obtain ⟨mc, hmc⟩ : ∃ m, m = ms + 1 := ⟨_, rfl⟩
  rw [← hmc] at HOS ⊢
  clear hmc
  generalize ((w2.alloc (Obj.map #[] 0)).alloc (Obj.map #[] 0)) = W0 at *
  go_loopg [7] N (fun kx v7 wr => ∃ i : Nat, v7 = .int .i64 (i : Int) ∧ i ≤ N ∧ N - i ≤ kx ∧ i ≤ 100 ∧ Hid (OS w wr n ms mc i))
  case atStart => exact ⟨0, rfl, Nat.zero_le _, Nat.le_refl _, by omega, HOS.out⟩
  case round =>
    obtain ⟨i, rfl, hi, hkx, hi100, HS⟩ := hrel
    obtain ⟨F, S, v, Z, sf, cf, ks, kc, Ds, Dc, hz⟩ := HS.out
    have HZ := hide hz
    have kW := waiting_any wr n S F v Z hz.nt
    obtain ⟨zl, hzl⟩ : ∃ m, m = Z.length := ⟨_, rfl⟩
    have hzb : zl ≤ 100 := by have := hz.iv.l; simp at this; omega
    rw [← hzl] at kW
    by_cases hlt : i < N ∧ i < 100
    · obtain ⟨hlt, hi1⟩ := hlt
      have hltz : (i : Int) < (N : Int) := by omega
      have hi1z : (i : Int) < 100 := by omega
      have hil : i < L.length := by have := HN.out; omega
      obtain ⟨b, o, rfl, hcs⟩ := HAT.out (by omega)
      obtain ⟨q0, q1, -⟩ := hcs i hil
      obtain ⟨bK, bI, -⟩ := HBD.out _ (List.getElem_mem hil)
      obtain ⟨kd, hkd⟩ : ∃ f, f = L[i].1 := ⟨_, rfl⟩
      obtain ⟨pl, hpl⟩ : ∃ f, f = L[i].2.1 := ⟨_, rfl⟩
      rw [← hkd] at q0 bK
      rw [← hpl] at q1 bI
      have c1 : wr.cell? ⟨b, o + i * 44 + 1, none⟩ = some (.int .i64 pl) := cell_upB hz.bl q1
      have HC0 := hide q0
      have HBK := hide bK
      have HZL := hide hzl
      have kA := abs_any wr pl bI
      clear hz hcs q0 q1 hkd hpl bK bI hil hzl
      by_cases hz0 : zl = 0
      · have hzn : Z = [] := List.eq_nil_of_length_eq_zero (by rw [← HZL.out]; exact hz0)
        subst hzn
        subst hz0
        have kP := peek_none wr n S F v HZ.out.nt
        have HI : Hid ((Try.prog.info? 54).map (·.size) = some ZM.size) := hide (Try.info_msg)
        have H1 := hide ZM_pl.one
        have HSZ := hide ZM_pl.sz
        have hz3 : ZM[3]? = some (.int .u64 0) := rfl
        have hz4 : ZM[4]? = some (.int .u64 0) := rfl
        have kD' : ∀ (X : World) (hx : NtZ X n F S v []), Calls Try.prog 19 #[.pointer (some ⟨n, 0, none⟩), .int .i64 0] X fun e w' => e = .returned (.tuple #[.agg ZM, .bool false]) ∧ Grows X w' := fun X hx => deliver_none X n S F v hx
        have HZM : Hid (ZM = (List.toArray ((Value.int .i64 0) :: (Value.int .i64 0) :: (Value.int .i64 0) :: (Value.int .u64 0) :: (Value.int .u64 0) :: (Value.int .u64 0) :: (Value.int .i64 0) :: (Value.int .u64 0) :: (Value.int .i64 0) :: (Value.int .i64 0) :: (Value.slice none 0 0) :: (Value.slice none 0 0) :: (Value.int .i64 0) :: (Value.int .i64 0) :: (Value.int .i64 0) :: (Value.int .i64 0) :: (Value.slice none 0 0) :: (Value.int .i64 0) :: (Value.int .i64 0) :: (Value.slice none 0 0) :: (Value.int .i64 0) :: (Value.slice none 0 0) :: (Value.slice none 0 0) :: (Value.int .i64 0) :: (Value.int .i64 0) :: (Value.int .i64 0) :: (Value.int .i64 0) :: (Value.int .i64 0) :: (Value.int .i64 0) :: (Value.int .i64 0) :: (Value.int .i64 0) :: (Value.int .i64 0) :: (Value.bool false) :: (Value.int .i64 0) :: (Value.int .i64 0) :: (Value.int .i64 0) :: (Value.int .i64 0) :: (Value.int .i64 0) :: (Value.int .i64 0) :: (Value.slice none 0 0) :: (Value.slice none 0 0) :: []))) := hide rfl
        generalize ZM = A at *
        have HZ3 := hide hz3
        have HZ4 := hide hz4
        have HKD := hide kD'
        clear kD' hz3 hz4 c1 kA
        go_upto_region 14 with (first | (go_at_call 22; refine kW.mono ?_; rintro e w3 ⟨he3, hw3⟩; have hw3 := hw3.symm; subst he3; subst hw3) | (go_at_call 23; refine kP.mono ?_; rintro e w3 ⟨he3, hg3⟩; subst he3) | (refine wpList_store_row rfl 54 (.tmp 9) (.tmp 49) rfl w3.heap.size A rfl rfl 54 _ (BxA.new _ _ _) HI.out (by rw [HSZ.out]; rfl) H1.out ?_))
        obtain ⟨X, hX⟩ : ∃ X, X = (w3.alloc (.cells (List.toArray ((Value.int .i64 0) :: (Value.int .i64 0) :: (Value.int .i64 0) :: (Value.int .u64 0) :: (Value.int .u64 0) :: (Value.int .u64 0) :: (Value.int .i64 0) :: (Value.int .u64 0) :: (Value.int .i64 0) :: (Value.int .i64 0) :: (Value.slice none 0 0) :: (Value.slice none 0 0) :: (Value.int .i64 0) :: (Value.int .i64 0) :: (Value.int .i64 0) :: (Value.int .i64 0) :: (Value.slice none 0 0) :: (Value.int .i64 0) :: (Value.int .i64 0) :: (Value.slice none 0 0) :: (Value.int .i64 0) :: (Value.slice none 0 0) :: (Value.slice none 0 0) :: (Value.int .i64 0) :: (Value.int .i64 0) :: (Value.int .i64 0) :: (Value.int .i64 0) :: (Value.int .i64 0) :: (Value.int .i64 0) :: (Value.int .i64 0) :: (Value.int .i64 0) :: (Value.int .i64 0) :: (Value.bool false) :: (Value.int .i64 0) :: (Value.int .i64 0) :: (Value.int .i64 0) :: (Value.int .i64 0) :: (Value.int .i64 0) :: (Value.int .i64 0) :: (Value.slice none 0 0) :: (Value.slice none 0 0) :: [])) 54)).setRow w3.heap.size A := ⟨_, rfl⟩
        have hXB : BxA X w3.heap.size 54 A := by rw [hX]; exact setRow_heap _ _ _ A _ _ (BxA.new _ _ _)
        have hGX : Grows wr X := by rw [hX]; exact (hg3.trans (Grows.alloc _ _)).setRow A hg3.below.size
        rw [← hX]
        clear hX
        obtain ⟨g, hg⟩ : ∃ g, g = w3.heap.size := ⟨_, rfl⟩
        rw [← hg] at hXB ⊢
        have HXB := hide hXB
        have HZX := hide (HZ.out.below hGX.below)
        have c0 : X.cell? ⟨b, o + i * 44, none⟩ = some (.int .i64 kd) := cell_upB HZX.out.bl HC0.out
        have kA := abs_any X kd HBK.out
        clear hXB hGX hg3 hg kP kW
        go_upto_region 20 with (go_at_call 12; refine kA.mono ?_; rintro e w4 ⟨⟨am4, he4, ham4⟩, hw4⟩; have hw4 := hw4.symm; subst he4; subst hw4)
        have HS100 : Hid (S ≤ 100 ∧ ([] : List Gm).length ≤ 100) := by apply hide; have h1 := HZX.out.iv.s; exact ⟨by omega, by simp⟩
        rcases (by omega : (am4 : Int) % 5 = 0 ∨ (am4 : Int) % 5 = 1 ∨ (am4 : Int) % 5 = 2 ∨ (am4 : Int) % 5 = 3 ∨ (am4 : Int) % 5 = 4) with hr | hr | hr | hr | hr
        · rw [hr]
          clear hr ham4 c0 kA
          go_wp2_with fail
          obtain ⟨M1, hM1, hp1, hk1⟩ : ∃ M1, M1 = (List.toArray ((Value.int .i64 0) :: (Value.int .i64 0) :: (Value.int .i64 0) :: (Value.int .u64 0) :: (Value.int .u64 (i : Int)) :: (Value.int .u64 0) :: (Value.int .i64 0) :: (Value.int .u64 0) :: (Value.int .i64 0) :: (Value.int .i64 0) :: (Value.slice none 0 0) :: (Value.slice none 0 0) :: (Value.int .i64 0) :: (Value.int .i64 0) :: (Value.int .i64 0) :: (Value.int .i64 0) :: (Value.slice none 0 0) :: (Value.int .i64 0) :: (Value.int .i64 0) :: (Value.slice none 0 0) :: (Value.int .i64 0) :: (Value.slice none 0 0) :: (Value.slice none 0 0) :: (Value.int .i64 0) :: (Value.int .i64 0) :: (Value.int .i64 0) :: (Value.int .i64 0) :: (Value.int .i64 0) :: (Value.int .i64 0) :: (Value.int .i64 0) :: (Value.int .i64 0) :: (Value.int .i64 0) :: (Value.bool false) :: (Value.int .i64 0) :: (Value.int .i64 0) :: (Value.int .i64 0) :: (Value.int .i64 0) :: (Value.int .i64 0) :: (Value.int .i64 0) :: (Value.slice none 0 0) :: (Value.slice none 0 0) :: [])) ∧ Pl M1 ∧ M1[4]? = some (.int .u64 (i : Int)) := ⟨_, rfl, pl_kind 0 _, rfl⟩
          rw [← hM1]
          clear hM1
          have HP1 := hide hp1
          have HK1 := hide hk1
          clear hp1 hk1
          go_at_call 13
          refine (send_any X n S F v _ M1 HZX.out.nt HP1.out (by have := HS100.out; omega) (by have := HS100.out; omega)).mono ?_
          rintro e w5 ⟨he5, F5, v5, g5, hn5, hf5, hF5⟩
          subst he5
          obtain ⟨T, hT⟩ : ∃ T, T = S + 1 := ⟨_, rfl⟩
          rw [← hT] at hn5 ⊢
          have HM5 : Hid (OSM w w5 n ms mc F5 T v5 _ ks kc Ds Dc) := hide (HZX.out.m.net hn5 hf5 hF5)
          have HN5 := hide hn5
          have HF5 := hide hf5
          have HFF5 := hide hF5
          have HT := hide hT
          have hlen : ∀ ty, (Builtin.len_ #[85] ty #[.map (some ms)]).run Try.prog w5 = .ok (.int .i64 (S : Int)) w5 := fun ty => by
            have := HM5.out.os.len Try.underlying85 ty
            rw [HZX.out.mt.size] at this
            exact this
          have hTz : (S : Int) + 1 = (T : Int) := by omega
          have hTb : (T : Int) ≤ 101 := by have := HS100.out; omega
          obtain ⟨w6, hrun6, ho6, ht6⟩ := mf_store HM5.out.os HZX.out.fs (by have := HZX.out.kb; unfold maxLen; omega) T (by omega) 1 (by decide)
          have HO6 := hide ho6
          have HT6 := hide ht6
          clear hn5 hf5 hF5 hT ho6 ht6
          go_wp2_with fail
          go_roundg (N - (i + 1))
          case measure => omega
          case rel => exact ⟨i + 1, rfl, hlt, Nat.le_refl _, hi1, hide (HZX.out.sentT HT.out HN5.out HF5.out HFF5.out (gd_send _ _ _ _ (by rw [HP1.out.sz]; omega) HK1.out) HO6.out HT6.out)⟩
        · rw [hr]
          clear hr ham4 c0 kA
          go_wp2_with fail
          obtain ⟨M1, hM1, hp1, hk1⟩ : ∃ M1, M1 = (List.toArray ((Value.int .i64 0) :: (Value.int .i64 0) :: (Value.int .i64 0) :: (Value.int .u64 0) :: (Value.int .u64 (i : Int)) :: (Value.int .u64 0) :: (Value.int .i64 0) :: (Value.int .u64 0) :: (Value.int .i64 0) :: (Value.int .i64 0) :: (Value.slice none 0 0) :: (Value.slice none 0 0) :: (Value.int .i64 0) :: (Value.int .i64 0) :: (Value.int .i64 0) :: (Value.int .i64 0) :: (Value.slice none 0 0) :: (Value.int .i64 0) :: (Value.int .i64 0) :: (Value.slice none 0 0) :: (Value.int .i64 0) :: (Value.slice none 0 0) :: (Value.slice none 0 0) :: (Value.int .i64 0) :: (Value.int .i64 0) :: (Value.int .i64 0) :: (Value.int .i64 0) :: (Value.int .i64 0) :: (Value.int .i64 0) :: (Value.int .i64 0) :: (Value.int .i64 0) :: (Value.int .i64 0) :: (Value.bool false) :: (Value.int .i64 0) :: (Value.int .i64 0) :: (Value.int .i64 0) :: (Value.int .i64 0) :: (Value.int .i64 0) :: (Value.int .i64 0) :: (Value.slice none 0 0) :: (Value.slice none 0 0) :: [])) ∧ Pl M1 ∧ M1[4]? = some (.int .u64 (i : Int)) := ⟨_, rfl, pl_kind 0 _, rfl⟩
          rw [← hM1]
          clear hM1
          have HP1 := hide hp1
          have HK1 := hide hk1
          clear hp1 hk1
          go_at_call 13
          refine (send_any X n S F v _ M1 HZX.out.nt HP1.out (by have := HS100.out; omega) (by have := HS100.out; omega)).mono ?_
          rintro e w5 ⟨he5, F5, v5, g5, hn5, hf5, hF5⟩
          subst he5
          obtain ⟨T, hT⟩ : ∃ T, T = S + 1 := ⟨_, rfl⟩
          rw [← hT] at hn5 ⊢
          have HM5 : Hid (OSM w w5 n ms mc F5 T v5 _ ks kc Ds Dc) := hide (HZX.out.m.net hn5 hf5 hF5)
          have HN5 := hide hn5
          have HF5 := hide hf5
          have HFF5 := hide hF5
          have HT := hide hT
          have hlen : ∀ ty, (Builtin.len_ #[85] ty #[.map (some ms)]).run Try.prog w5 = .ok (.int .i64 (S : Int)) w5 := fun ty => by
            have := HM5.out.os.len Try.underlying85 ty
            rw [HZX.out.mt.size] at this
            exact this
          have hTz : (S : Int) + 1 = (T : Int) := by omega
          have hTb : (T : Int) ≤ 101 := by have := HS100.out; omega
          obtain ⟨w6, hrun6, ho6, ht6⟩ := mf_store HM5.out.os HZX.out.fs (by have := HZX.out.kb; unfold maxLen; omega) T (by omega) 1 (by decide)
          have HO6 := hide ho6
          have HT6 := hide ht6
          clear hn5 hf5 hF5 hT ho6 ht6
          go_wp2_with fail
          go_roundg (N - (i + 1))
          case measure => omega
          case rel => exact ⟨i + 1, rfl, hlt, Nat.le_refl _, hi1, hide (HZX.out.sentT HT.out HN5.out HF5.out HFF5.out (gd_send _ _ _ _ (by rw [HP1.out.sz]; omega) HK1.out) HO6.out HT6.out)⟩
        · rw [hr]
          clear hr ham4 c0 kA
          have kD := lose_none X n S F v HZX.out.nt
          go_wp2_with (go_at_call 15; refine kD.mono ?_; rintro e w5 ⟨he5, hw5⟩; have hw5 := hw5.symm; subst he5; subst hw5)
          go_roundg (N - (i + 1))
          case measure => omega
          case rel => exact ⟨i + 1, rfl, hlt, Nat.le_refl _, hi1, hide ⟨_, _, _, _, _, _, _, _, _, _, HZX.out.up0⟩⟩
        · rw [hr]
          clear hr ham4 c0 kA
          have kD := twice_none X n S F v HZX.out.nt
          go_wp2_with (go_at_call 17; refine kD.mono ?_; rintro e w5 ⟨he5, hw5⟩; have hw5 := hw5.symm; subst he5; subst hw5)
          go_roundg (N - (i + 1))
          case measure => omega
          case rel => exact ⟨i + 1, rfl, hlt, Nat.le_refl _, hi1, hide ⟨_, _, _, _, _, _, _, _, _, _, HZX.out.up0⟩⟩
        · rw [hr]
          clear hr ham4 c0 kA
          have kD := HKD.out X HZX.out.nt
          go_upto_region 16 with (first | (go_at_call 19; refine kD.mono ?_; rintro e w5 ⟨he5, hg5⟩; subst he5) | (refine wpList_store_row rfl 54 (.tmp 12) (.tmp 62) rfl w5.heap.size A rfl rfl 54 _ (BxA.new _ _ _) HI.out (by rw [HSZ.out]; rfl) H1.out ?_))
          have hnb : BxA w5 g 54 A := BxA.up HXB.out hg5.below
          obtain ⟨Y, hY⟩ : ∃ Y, Y = (w5.alloc (.cells (List.toArray ((Value.int .i64 0) :: (Value.int .i64 0) :: (Value.int .i64 0) :: (Value.int .u64 0) :: (Value.int .u64 0) :: (Value.int .u64 0) :: (Value.int .i64 0) :: (Value.int .u64 0) :: (Value.int .i64 0) :: (Value.int .i64 0) :: (Value.slice none 0 0) :: (Value.slice none 0 0) :: (Value.int .i64 0) :: (Value.int .i64 0) :: (Value.int .i64 0) :: (Value.int .i64 0) :: (Value.slice none 0 0) :: (Value.int .i64 0) :: (Value.int .i64 0) :: (Value.slice none 0 0) :: (Value.int .i64 0) :: (Value.slice none 0 0) :: (Value.slice none 0 0) :: (Value.int .i64 0) :: (Value.int .i64 0) :: (Value.int .i64 0) :: (Value.int .i64 0) :: (Value.int .i64 0) :: (Value.int .i64 0) :: (Value.int .i64 0) :: (Value.int .i64 0) :: (Value.int .i64 0) :: (Value.bool false) :: (Value.int .i64 0) :: (Value.int .i64 0) :: (Value.int .i64 0) :: (Value.int .i64 0) :: (Value.int .i64 0) :: (Value.int .i64 0) :: (Value.slice none 0 0) :: (Value.slice none 0 0) :: [])) 54)).setRow w5.heap.size A := ⟨_, rfl⟩
          have hYB : BxA Y w5.heap.size 54 A := by rw [hY]; exact setRow_heap _ _ _ A _ _ (BxA.new _ _ _)
          have hGY : Below w5.heap.size w5 Y := by rw [hY]; exact ((Grows.alloc _ _).setRow A (Nat.le_refl _)).below
          rw [← hY]
          clear hY
          have hnY : BxA Y g 54 A := BxA.up hnb hGY
          obtain ⟨g2, hg2⟩ : ∃ g, g = w5.heap.size := ⟨_, rfl⟩
          rw [← hg2] at hYB ⊢
          have HZY := hide ((HZX.out.below hg5.below).below hGY)
          have c3 : Y.cell? ⟨g, 3, none⟩ = some (.int .u64 0) := hnY.cell 3 _ HZ3.out
          have c4 : Y.cell? ⟨g, 4, none⟩ = some (.int .u64 0) := hnY.cell 4 _ HZ4.out
          have d3 : Y.cell? ⟨g2, 3, none⟩ = some (.int .u64 0) := hYB.cell 3 _ HZ3.out
          have d4 : Y.cell? ⟨g2, 4, none⟩ = some (.int .u64 0) := hYB.cell 4 _ HZ4.out
          clear hnb hYB hGY hnY hg2 kD hg5
          go_wp2_with fail
          go_roundg (N - (i + 1))
          case measure => omega
          case rel => exact ⟨i + 1, rfl, hlt, Nat.le_refl _, hi1, hide ⟨_, _, _, _, _, _, _, _, _, _, HZY.out.up0⟩⟩
      · have hz0z : (0 : Int) < (zl : Int) := by omega
        have hz1z : ¬ (zl : Int) = 0 := by omega
        go_upto_region 13 with (first | (go_at_call 22; refine kW.mono ?_; rintro e w3 ⟨he3, hw3⟩; have hw3 := hw3.symm; subst he3; subst hw3) | (go_at_call 12; refine kA.mono ?_; rintro e w3 ⟨⟨am, he3, ham⟩, hw3⟩; have hw3 := hw3.symm; subst he3; subst hw3))
        obtain ⟨k, hk⟩ : ∃ k : Nat, (k : Int) = (am : Int) % (zl : Int) := ⟨am % zl, by simp⟩
        rw [← hk]
        have hkz : k < Z.length := by have := Int.emod_lt_of_pos (am : Int) hz0z; have := HZL.out; omega
        have HKZ := hide hkz
        clear hk ham kA kW hkz
        obtain ⟨-, hM, -⟩ := HZ.out.nt.e _ (List.getElem_mem HKZ.out)
        have hgd := HZ.out.gd _ (List.getElem_mem HKZ.out)
        have kP := peek_any wr n S F v Z k HZ.out.nt HKZ.out (by have := HZL.out; omega)
        obtain ⟨A, hA⟩ : ∃ A, A = (Z[k]'HKZ.out).2 := ⟨_, rfl⟩
        obtain ⟨id, hid⟩ : ∃ x, x = idm (Z[k]'HKZ.out) := ⟨_, rfl⟩
        obtain ⟨hg3, ask, hg4⟩ := hgd
        rw [← hA] at hM kP hg3 hg4
        rw [← hid] at hg3
        have HI : Hid ((Try.prog.info? 54).map (·.size) = some A.size) := by apply hide; rw [hM.sz]; exact Try.info_msg
        have H1 := hide hM.one
        have HSZ := hide hM.sz
        have HA := hide hA
        have HID := hide hid
        have HG3 := hide hg3
        have HG4 := hide hg4
        clear hM hA hid hg3 hg4 c1 hz0z hz1z
        go_upto_region 14 with (first | (go_at_call 23; refine kP.mono ?_; rintro e w3 ⟨he3, hg3⟩; subst he3) | (refine wpList_store_row rfl 54 (.tmp 9) (.tmp 49) rfl w3.heap.size A rfl rfl 54 _ (BxA.new _ _ _) HI.out (by rw [HSZ.out]; rfl) H1.out ?_))
        obtain ⟨X, hX⟩ : ∃ X, X = (w3.alloc (.cells (List.toArray ((Value.int .i64 0) :: (Value.int .i64 0) :: (Value.int .i64 0) :: (Value.int .u64 0) :: (Value.int .u64 0) :: (Value.int .u64 0) :: (Value.int .i64 0) :: (Value.int .u64 0) :: (Value.int .i64 0) :: (Value.int .i64 0) :: (Value.slice none 0 0) :: (Value.slice none 0 0) :: (Value.int .i64 0) :: (Value.int .i64 0) :: (Value.int .i64 0) :: (Value.int .i64 0) :: (Value.slice none 0 0) :: (Value.int .i64 0) :: (Value.int .i64 0) :: (Value.slice none 0 0) :: (Value.int .i64 0) :: (Value.slice none 0 0) :: (Value.slice none 0 0) :: (Value.int .i64 0) :: (Value.int .i64 0) :: (Value.int .i64 0) :: (Value.int .i64 0) :: (Value.int .i64 0) :: (Value.int .i64 0) :: (Value.int .i64 0) :: (Value.int .i64 0) :: (Value.int .i64 0) :: (Value.bool false) :: (Value.int .i64 0) :: (Value.int .i64 0) :: (Value.int .i64 0) :: (Value.int .i64 0) :: (Value.int .i64 0) :: (Value.int .i64 0) :: (Value.slice none 0 0) :: (Value.slice none 0 0) :: [])) 54)).setRow w3.heap.size A := ⟨_, rfl⟩
        have hXB : BxA X w3.heap.size 54 A := by rw [hX]; exact setRow_heap _ _ _ A _ _ (BxA.new _ _ _)
        have hGX : Grows wr X := by rw [hX]; exact (hg3.trans (Grows.alloc _ _)).setRow A hg3.below.size
        rw [← hX]
        clear hX
        obtain ⟨g, hg⟩ : ∃ g, g = w3.heap.size := ⟨_, rfl⟩
        have HGS : Hid (wr.heap.size ≤ g) := by apply hide; rw [hg]; exact hg3.below.size
        rw [← hg] at hXB ⊢
        have HXB := hide hXB
        have HZX := hide (HZ.out.below hGX.below)
        have c0 : X.cell? ⟨b, o + i * 44, none⟩ = some (.int .i64 kd) := cell_upB HZX.out.bl HC0.out
        have kA := abs_any X kd HBK.out
        clear hXB hGX hg3 hg kP
        go_upto_region 20 with (go_at_call 12; refine kA.mono ?_; rintro e w4 ⟨⟨am4, he4, ham4⟩, hw4⟩; have hw4 := hw4.symm; subst he4; subst hw4)
        have HS100 : Hid (S ≤ 100 ∧ Z.length ≤ 100) := by apply hide; have h1 := HZX.out.iv.s; have h2 := HZX.out.iv.l; simp at h2; omega
        rcases (by omega : (am4 : Int) % 5 = 0 ∨ (am4 : Int) % 5 = 1 ∨ (am4 : Int) % 5 = 2 ∨ (am4 : Int) % 5 = 3 ∨ (am4 : Int) % 5 = 4) with hr | hr | hr | hr | hr
        · rw [hr]
          clear hr ham4 c0 kA
          go_wp2_with fail
          obtain ⟨M1, hM1, hp1, hk1⟩ : ∃ M1, M1 = (List.toArray ((Value.int .i64 0) :: (Value.int .i64 0) :: (Value.int .i64 0) :: (Value.int .u64 0) :: (Value.int .u64 (i : Int)) :: (Value.int .u64 0) :: (Value.int .i64 0) :: (Value.int .u64 0) :: (Value.int .i64 0) :: (Value.int .i64 0) :: (Value.slice none 0 0) :: (Value.slice none 0 0) :: (Value.int .i64 0) :: (Value.int .i64 0) :: (Value.int .i64 0) :: (Value.int .i64 0) :: (Value.slice none 0 0) :: (Value.int .i64 0) :: (Value.int .i64 0) :: (Value.slice none 0 0) :: (Value.int .i64 0) :: (Value.slice none 0 0) :: (Value.slice none 0 0) :: (Value.int .i64 0) :: (Value.int .i64 0) :: (Value.int .i64 0) :: (Value.int .i64 0) :: (Value.int .i64 0) :: (Value.int .i64 0) :: (Value.int .i64 0) :: (Value.int .i64 0) :: (Value.int .i64 0) :: (Value.bool false) :: (Value.int .i64 0) :: (Value.int .i64 0) :: (Value.int .i64 0) :: (Value.int .i64 0) :: (Value.int .i64 0) :: (Value.int .i64 0) :: (Value.slice none 0 0) :: (Value.slice none 0 0) :: [])) ∧ Pl M1 ∧ M1[4]? = some (.int .u64 (i : Int)) := ⟨_, rfl, pl_kind 0 _, rfl⟩
          rw [← hM1]
          clear hM1
          have HP1 := hide hp1
          have HK1 := hide hk1
          clear hp1 hk1
          go_at_call 13
          refine (send_any X n S F v _ M1 HZX.out.nt HP1.out (by have := HS100.out; omega) (by have := HS100.out; omega)).mono ?_
          rintro e w5 ⟨he5, F5, v5, g5, hn5, hf5, hF5⟩
          subst he5
          obtain ⟨T, hT⟩ : ∃ T, T = S + 1 := ⟨_, rfl⟩
          rw [← hT] at hn5 ⊢
          have HM5 : Hid (OSM w w5 n ms mc F5 T v5 _ ks kc Ds Dc) := hide (HZX.out.m.net hn5 hf5 hF5)
          have HN5 := hide hn5
          have HF5 := hide hf5
          have HFF5 := hide hF5
          have HT := hide hT
          have hlen : ∀ ty, (Builtin.len_ #[85] ty #[.map (some ms)]).run Try.prog w5 = .ok (.int .i64 (S : Int)) w5 := fun ty => by
            have := HM5.out.os.len Try.underlying85 ty
            rw [HZX.out.mt.size] at this
            exact this
          have hTz : (S : Int) + 1 = (T : Int) := by omega
          have hTb : (T : Int) ≤ 101 := by have := HS100.out; omega
          obtain ⟨w6, hrun6, ho6, ht6⟩ := mf_store HM5.out.os HZX.out.fs (by have := HZX.out.kb; unfold maxLen; omega) T (by omega) 1 (by decide)
          have HO6 := hide ho6
          have HT6 := hide ht6
          clear hn5 hf5 hF5 hT ho6 ht6
          go_wp2_with fail
          go_roundg (N - (i + 1))
          case measure => omega
          case rel => exact ⟨i + 1, rfl, hlt, Nat.le_refl _, hi1, hide (HZX.out.sentT HT.out HN5.out HF5.out HFF5.out (gd_send _ _ _ _ (by rw [HP1.out.sz]; omega) HK1.out) HO6.out HT6.out)⟩
        · rw [hr]
          clear hr ham4 c0 kA
          go_wp2_with fail
          obtain ⟨M1, hM1, hp1, hk1⟩ : ∃ M1, M1 = (List.toArray ((Value.int .i64 0) :: (Value.int .i64 0) :: (Value.int .i64 0) :: (Value.int .u64 0) :: (Value.int .u64 (i : Int)) :: (Value.int .u64 0) :: (Value.int .i64 0) :: (Value.int .u64 0) :: (Value.int .i64 0) :: (Value.int .i64 0) :: (Value.slice none 0 0) :: (Value.slice none 0 0) :: (Value.int .i64 0) :: (Value.int .i64 0) :: (Value.int .i64 0) :: (Value.int .i64 0) :: (Value.slice none 0 0) :: (Value.int .i64 0) :: (Value.int .i64 0) :: (Value.slice none 0 0) :: (Value.int .i64 0) :: (Value.slice none 0 0) :: (Value.slice none 0 0) :: (Value.int .i64 0) :: (Value.int .i64 0) :: (Value.int .i64 0) :: (Value.int .i64 0) :: (Value.int .i64 0) :: (Value.int .i64 0) :: (Value.int .i64 0) :: (Value.int .i64 0) :: (Value.int .i64 0) :: (Value.bool false) :: (Value.int .i64 0) :: (Value.int .i64 0) :: (Value.int .i64 0) :: (Value.int .i64 0) :: (Value.int .i64 0) :: (Value.int .i64 0) :: (Value.slice none 0 0) :: (Value.slice none 0 0) :: [])) ∧ Pl M1 ∧ M1[4]? = some (.int .u64 (i : Int)) := ⟨_, rfl, pl_kind 0 _, rfl⟩
          rw [← hM1]
          clear hM1
          have HP1 := hide hp1
          have HK1 := hide hk1
          clear hp1 hk1
          go_at_call 13
          refine (send_any X n S F v _ M1 HZX.out.nt HP1.out (by have := HS100.out; omega) (by have := HS100.out; omega)).mono ?_
          rintro e w5 ⟨he5, F5, v5, g5, hn5, hf5, hF5⟩
          subst he5
          obtain ⟨T, hT⟩ : ∃ T, T = S + 1 := ⟨_, rfl⟩
          rw [← hT] at hn5 ⊢
          have HM5 : Hid (OSM w w5 n ms mc F5 T v5 _ ks kc Ds Dc) := hide (HZX.out.m.net hn5 hf5 hF5)
          have HN5 := hide hn5
          have HF5 := hide hf5
          have HFF5 := hide hF5
          have HT := hide hT
          have hlen : ∀ ty, (Builtin.len_ #[85] ty #[.map (some ms)]).run Try.prog w5 = .ok (.int .i64 (S : Int)) w5 := fun ty => by
            have := HM5.out.os.len Try.underlying85 ty
            rw [HZX.out.mt.size] at this
            exact this
          have hTz : (S : Int) + 1 = (T : Int) := by omega
          have hTb : (T : Int) ≤ 101 := by have := HS100.out; omega
          obtain ⟨w6, hrun6, ho6, ht6⟩ := mf_store HM5.out.os HZX.out.fs (by have := HZX.out.kb; unfold maxLen; omega) T (by omega) 1 (by decide)
          have HO6 := hide ho6
          have HT6 := hide ht6
          clear hn5 hf5 hF5 hT ho6 ht6
          go_wp2_with fail
          go_roundg (N - (i + 1))
          case measure => omega
          case rel => exact ⟨i + 1, rfl, hlt, Nat.le_refl _, hi1, hide (HZX.out.sentT HT.out HN5.out HF5.out HFF5.out (gd_send _ _ _ _ (by rw [HP1.out.sz]; omega) HK1.out) HO6.out HT6.out)⟩
        · rw [hr]
          clear hr ham4 c0 kA
          go_wp2_with fail
          go_at_call 15
          refine (lose_any X n S F v Z k HZX.out.nt HKZ.out (by have := HS100.out; omega)).mono ?_
          rintro e w5 ⟨he5, v5, hn5, hfx, hv5⟩
          subst he5
          have hf5 : Fr F X w5 := fr_mono hfx fun j hj => HZX.out.nt.bk j hj
          have hnb : BxA w5 g 54 A := HXB.out.frm hf5 fun q => by have := HZ.out.nt.lt _ q; have := HGS.out; omega
          have hF5 : ∀ j, F j → F j ∨ X.heap.size ≤ j := fun j hj => .inl hj
          have HM5 : Hid (OSM w w5 n ms mc F S v5 _ ks kc Ds Dc) := hide (HZX.out.m.net hn5 hf5 hF5)
          have HN5 := hide hn5
          have HF5 := hide hf5
          have HFF5 := hide hF5
          have c3 : w5.cell? ⟨g, 3, none⟩ = some (.int .u64 (id : Int)) := hnb.cell 3 _ HG3.out
          have hid1 := HZX.out.iv.r id (by rw [HID.out]; exact List.mem_map_of_mem (List.getElem_mem HKZ.out))
          have hidb : U64 id := by have := HS100.out; show id < 18446744073709551616; omega
          have hsb := HZX.out.iv.bound id hid1.1 hid1.2
          have hlk := mf_look HM5.out.os HZX.out.fs id hidb
          obtain ⟨z, hz⟩ : ∃ z, z = sf id := ⟨_, rfl⟩
          rw [← hz] at hsb hlk
          have hz1 : 0 ≤ z := hsb.1
          have hz2 : z ≤ 200 := by omega
          obtain ⟨w6, hrun6, ho6, ht6⟩ := mf_store HM5.out.os HZX.out.fs (by have := HZX.out.kb; unfold maxLen; omega) id hidb (z - 1) (by constructor <;> omega)
          have HZV := hide hz
          have HO6 := hide ho6
          have HT6 := hide ht6
          clear hn5 hf5 hF5 ho6 ht6 hnb hid1 hidb hsb hz
          go_wp2_with fail
          go_roundg (N - (i + 1))
          case measure => omega
          case rel => exact ⟨i + 1, rfl, hlt, Nat.le_refl _, hi1, hide (HZX.out.lost HKZ.out HN5.out HF5.out HFF5.out id HID.out.symm (by rw [← HZV.out]; exact HO6.out) HT6.out)⟩
        · rw [hr]
          clear hr ham4 c0 kA
          go_wp2_with fail
          go_at_call 17
          refine (twice_any X n S F v Z k HZX.out.nt HKZ.out (by have := HS100.out; omega)).mono ?_
          rintro e w5 ⟨he5, F5, v5, hn5, hfx, hfy⟩
          subst he5
          have hf5 : Fr F X w5 := hfx
          have hnb : BxA w5 g 54 A := HXB.out.frm hf5 fun q => by have := HZ.out.nt.lt _ q; have := HGS.out; omega
          have hF5 : ∀ j, F5 j → F j ∨ X.heap.size ≤ j := hfy
          have HM5 : Hid (OSM w w5 n ms mc F5 S v5 _ ks kc Ds Dc) := hide (HZX.out.m.net hn5 hf5 hF5)
          have HN5 := hide hn5
          have HF5 := hide hf5
          have HFF5 := hide hF5
          have c3 : w5.cell? ⟨g, 3, none⟩ = some (.int .u64 (id : Int)) := hnb.cell 3 _ HG3.out
          have hid1 := HZX.out.iv.r id (by rw [HID.out]; exact List.mem_map_of_mem (List.getElem_mem HKZ.out))
          have hidb : U64 id := by have := HS100.out; show id < 18446744073709551616; omega
          have hsb := HZX.out.iv.bound id hid1.1 hid1.2
          have hlk := mf_look HM5.out.os HZX.out.fs id hidb
          obtain ⟨z, hz⟩ : ∃ z, z = sf id := ⟨_, rfl⟩
          rw [← hz] at hsb hlk
          have hz1 : 0 ≤ z := hsb.1
          have hz2 : z ≤ 200 := by omega
          obtain ⟨w6, hrun6, ho6, ht6⟩ := mf_store HM5.out.os HZX.out.fs (by have := HZX.out.kb; unfold maxLen; omega) id hidb (z + 1) (by constructor <;> omega)
          have HZV := hide hz
          have HO6 := hide ho6
          have HT6 := hide ht6
          clear hn5 hf5 hF5 ho6 ht6 hnb hid1 hidb hsb hz
          go_wp2_with fail
          go_roundg (N - (i + 1))
          case measure => omega
          case rel => exact ⟨i + 1, rfl, hlt, Nat.le_refl _, hi1, hide (HZX.out.twice HKZ.out HN5.out HF5.out HFF5.out id HID.out.symm (by rw [← HZV.out]; exact HO6.out) HT6.out)⟩
        · rw [hr]
          clear hr ham4 c0 kA
          have kD := deliver_any X n S F v Z k HZX.out.nt HKZ.out (by have := HS100.out; omega)
          rw [← HA.out] at kD
          go_upto_region 16 with (first | (go_at_call 19; refine kD.mono ?_; rintro e w5 ⟨he5, v5, hn5, hf5⟩; subst he5) | (refine wpList_store_row rfl 54 (.tmp 12) (.tmp 62) rfl w5.heap.size A rfl rfl 54 _ (BxA.new _ _ _) HI.out (by rw [HSZ.out]; rfl) H1.out ?_))
          have hnb : BxA w5 g 54 A := HXB.out.frm hf5 fun q => by have := HZ.out.nt.lt _ q; have := HGS.out; omega
          obtain ⟨Y, hY⟩ : ∃ Y, Y = (w5.alloc (.cells (List.toArray ((Value.int .i64 0) :: (Value.int .i64 0) :: (Value.int .i64 0) :: (Value.int .u64 0) :: (Value.int .u64 0) :: (Value.int .u64 0) :: (Value.int .i64 0) :: (Value.int .u64 0) :: (Value.int .i64 0) :: (Value.int .i64 0) :: (Value.slice none 0 0) :: (Value.slice none 0 0) :: (Value.int .i64 0) :: (Value.int .i64 0) :: (Value.int .i64 0) :: (Value.int .i64 0) :: (Value.slice none 0 0) :: (Value.int .i64 0) :: (Value.int .i64 0) :: (Value.slice none 0 0) :: (Value.int .i64 0) :: (Value.slice none 0 0) :: (Value.slice none 0 0) :: (Value.int .i64 0) :: (Value.int .i64 0) :: (Value.int .i64 0) :: (Value.int .i64 0) :: (Value.int .i64 0) :: (Value.int .i64 0) :: (Value.int .i64 0) :: (Value.int .i64 0) :: (Value.int .i64 0) :: (Value.bool false) :: (Value.int .i64 0) :: (Value.int .i64 0) :: (Value.int .i64 0) :: (Value.int .i64 0) :: (Value.int .i64 0) :: (Value.int .i64 0) :: (Value.slice none 0 0) :: (Value.slice none 0 0) :: [])) 54)).setRow w5.heap.size A := ⟨_, rfl⟩
          have hYB : BxA Y w5.heap.size 54 A := by rw [hY]; exact setRow_heap _ _ _ A _ _ (BxA.new _ _ _)
          have hGY : Below w5.heap.size w5 Y := by rw [hY]; exact ((Grows.alloc _ _).setRow A (Nat.le_refl _)).below
          rw [← hY]
          clear hY
          have hnY : BxA Y g 54 A := BxA.up hnb hGY
          obtain ⟨g2, hg2⟩ : ∃ g, g = w5.heap.size := ⟨_, rfl⟩
          rw [← hg2] at hYB ⊢
          have HM5 : Hid (OSM w Y n ms mc F S v5 _ ks kc Ds Dc) := hide ((HZX.out.m.net hn5 hf5 fun j hj => .inl hj).below hGY)
          have HN5 := hide hn5
          have HF5 := hide hf5
          have HGY := hide hGY
          have c3 : Y.cell? ⟨g, 3, none⟩ = some (.int .u64 (id : Int)) := hnY.cell 3 _ HG3.out
          have c4 : Y.cell? ⟨g, 4, none⟩ = some (.int .u64 ask) := hnY.cell 4 _ HG4.out
          have d3 : Y.cell? ⟨g2, 3, none⟩ = some (.int .u64 (id : Int)) := hYB.cell 3 _ HG3.out
          have d4 : Y.cell? ⟨g2, 4, none⟩ = some (.int .u64 ask) := hYB.cell 4 _ HG4.out
          have hid1 := HZX.out.iv.r id (by rw [HID.out]; exact List.mem_map_of_mem (List.getElem_mem HKZ.out))
          have hidb : U64 id := by have := HS100.out; show id < 18446744073709551616; omega
          have hsb := HZX.out.iv.c id
          have hlk := mf_look HM5.out.oc HZX.out.fc id hidb
          obtain ⟨z, hz⟩ : ∃ z, z = cf id := ⟨_, rfl⟩
          rw [← hz] at hsb hlk
          have hz1 : 0 ≤ z := hsb.1
          have hz2 : z ≤ 200 := by omega
          obtain ⟨w6, hrun6, ho6, ht6⟩ := mf_store HM5.out.oc HZX.out.fc (by have := HZX.out.kb; unfold maxLen; omega) id hidb (z + 1) (by constructor <;> omega)
          have HZV := hide hz
          have HO6 := hide ho6
          have HT6 := hide ht6
          clear hn5 hf5 hGY ho6 ht6 hnb hnY hYB hid1 hidb hsb hz hg2 kD
          go_wp2_with fail
          go_roundg (N - (i + 1))
          case measure => omega
          case rel => exact ⟨i + 1, rfl, hlt, Nat.le_refl _, hi1, hide (OS.come HZX.out HKZ.out HN5.out HF5.out (fun j hj => .inl hj) HGY.out id HID.out.symm (by rw [← HZV.out]; exact HO6.out) HT6.out)⟩
    · by_cases hlt2 : i < N
      · have hltz : (i : Int) < (N : Int) := by omega
        have hi1z : ¬ (i : Int) < 100 := by omega
        have HZL0 := hide hzl
        clear hzl hz
        go_wp2_with fail
        clear hlt hkx hi hltz
        try clear hi1z
        go_loopg [14] zl (fun kx _ wq => ∃ (j z : Nat), z ≤ kx ∧ j + z ≤ 200 ∧ Hid (∃ F S v Z sf cf ks kc Ds Dc, OSZ w wq n ms mc j F S v Z sf cf ks kc Ds Dc ∧ Z.length = z))
        case atStart => exact ⟨i, zl, Nat.le_refl _, by omega, hide ⟨_, _, _, _, _, _, _, _, _, _, HZ.out, HZL0.out.symm⟩⟩
        case round =>
          obtain ⟨j, z, hzk, hjz, HQ⟩ := hrel
          obtain ⟨F2, S2, v2, Z2, sf2, cf2, ks2, kc2, Ds2, Dc2, hq, hql⟩ := HQ.out
          have kW2 := waiting_any wr n S2 F2 v2 Z2 hq.nt
          rw [hql] at kW2
          have HQZ := hide hq
          have HQL := hide hql
          clear hq hql
          by_cases hz0 : z = 0
          · subst hz0
            have hlen : ∀ ty, (Builtin.len_ #[85] ty #[.map (some ms)]).run Try.prog wr = .ok (.int .i64 (S2 : Int)) wr := fun ty => by
              have := HQZ.out.os.len Try.underlying85 ty
              rw [HQZ.out.mt.size] at this
              exact this
            have hS2 : (S2 : Int) ≤ 200 := by have := HQZ.out.iv.s; omega
            go_wp2_with (go_at_call 22; refine kW2.mono ?_; rintro e w3 ⟨he3, hw3⟩; have hw3 := hw3.symm; subst he3; subst hw3)
            go_loopg [16] S2 (fun kx v16 wq => ∃ x : Nat, v16 = .int .i64 (x : Int) ∧ 1 ≤ x ∧ x ≤ S2 + 1 ∧ S2 + 1 - x ≤ kx ∧ wq = wr)
            case atStart => exact ⟨1, rfl, Nat.le_refl _, by omega, by omega, rfl⟩
            case round =>
              obtain ⟨x, rfl, hx0, hx, hxk, rfl⟩ := hrel
              have HXK := hide hxk
              clear hxk
              by_cases hxs : x ≤ S2
              · have hxz : (x : Int) ≤ (S2 : Int) := by omega
                have hxw : wrap64 ((x : Int) + 1) = (x : Int) + 1 := by rw [← IntWalk.i64_left, IntKind.wrap_i64]; omega
                have hU : U64 x := by show x < 18446744073709551616; omega
                have hl1 := mf_look HQZ.out.os HQZ.out.fs x hU
                have hl2 := mf_look HQZ.out.oc HQZ.out.fc x hU
                have hZn : Z2 = [] := List.eq_nil_of_length_eq_zero HQL.out
                have hdn : cf2 x = sf2 x := by have h := HQZ.out.iv; rw [hZn] at h; exact h.done x hx0 hxs
                rw [hdn] at hl2
                obtain ⟨q, hq⟩ : ∃ q, q = sf2 x := ⟨_, rfl⟩
                rw [← hq] at hl1 hl2
                clear hdn hq hU hZn
                go_wp2_with fail
                go_roundg (S2 - x)
                case measure => have := HXK.out; omega
                case rel => exact ⟨x + 1, rfl, by omega, by omega, by omega, rfl⟩
              · have hxz : ¬ (x : Int) ≤ (S2 : Int) := by omega
                go_wp2_with fail
                go_ret
                exact ⟨rfl, HQZ.out.bl⟩
          · have hz0z : (0 : Int) < (z : Int) := by omega
            have hkq : 0 < Z2.length := by have := HQL.out; omega
            have HKQ := hide hkq
            obtain ⟨-, hM, -⟩ := HQZ.out.nt.e _ (List.getElem_mem hkq)
            have hgd := HQZ.out.gd _ (List.getElem_mem hkq)
            have kD := deliver_any wr n S2 F2 v2 Z2 0 HQZ.out.nt hkq (by have := HQL.out; omega)
            obtain ⟨A, hA⟩ : ∃ A, A = (Z2[0]'HKQ.out).2 := ⟨_, rfl⟩
            obtain ⟨id, hid⟩ : ∃ x, x = idm (Z2[0]'HKQ.out) := ⟨_, rfl⟩
            obtain ⟨hg3, ask, hg4⟩ := hgd
            rw [← hA] at hM kD hg3
            rw [← hid] at hg3
            have HI : Hid ((Try.prog.info? 54).map (·.size) = some A.size) := by apply hide; rw [hM.sz]; exact Try.info_msg
            have H1 := hide hM.one
            have HSZ := hide hM.sz
            have HID := hide hid
            have HG3 := hide hg3
            clear hM hA hid hg3 hg4 hkq
            go_upto_region 38 with (first | (go_at_call 22; refine kW2.mono ?_; rintro e w3 ⟨he3, hw3⟩; have hw3 := hw3.symm; subst he3; subst hw3) | (go_at_call 19; refine kD.mono ?_; rintro e w5 ⟨he5, v5, hn5, hf5⟩; subst he5) | (refine wpList_store_row rfl 54 (.tmp 14) (.tmp 135) rfl w5.heap.size A rfl rfl 54 _ (BxA.new _ _ _) HI.out (by rw [HSZ.out]; rfl) H1.out ?_))
            obtain ⟨Y, hY⟩ : ∃ Y, Y = (w5.alloc (.cells (List.toArray ((Value.int .i64 0) :: (Value.int .i64 0) :: (Value.int .i64 0) :: (Value.int .u64 0) :: (Value.int .u64 0) :: (Value.int .u64 0) :: (Value.int .i64 0) :: (Value.int .u64 0) :: (Value.int .i64 0) :: (Value.int .i64 0) :: (Value.slice none 0 0) :: (Value.slice none 0 0) :: (Value.int .i64 0) :: (Value.int .i64 0) :: (Value.int .i64 0) :: (Value.int .i64 0) :: (Value.slice none 0 0) :: (Value.int .i64 0) :: (Value.int .i64 0) :: (Value.slice none 0 0) :: (Value.int .i64 0) :: (Value.slice none 0 0) :: (Value.slice none 0 0) :: (Value.int .i64 0) :: (Value.int .i64 0) :: (Value.int .i64 0) :: (Value.int .i64 0) :: (Value.int .i64 0) :: (Value.int .i64 0) :: (Value.int .i64 0) :: (Value.int .i64 0) :: (Value.int .i64 0) :: (Value.bool false) :: (Value.int .i64 0) :: (Value.int .i64 0) :: (Value.int .i64 0) :: (Value.int .i64 0) :: (Value.int .i64 0) :: (Value.int .i64 0) :: (Value.slice none 0 0) :: (Value.slice none 0 0) :: [])) 54)).setRow w5.heap.size A := ⟨_, rfl⟩
            have hYB : BxA Y w5.heap.size 54 A := by rw [hY]; exact setRow_heap _ _ _ A _ _ (BxA.new _ _ _)
            have hGY : Below w5.heap.size w5 Y := by rw [hY]; exact ((Grows.alloc _ _).setRow A (Nat.le_refl _)).below
            rw [← hY]
            clear hY
            obtain ⟨g2, hg2⟩ : ∃ g, g = w5.heap.size := ⟨_, rfl⟩
            rw [← hg2] at hYB ⊢
            have HM5 : Hid (OSM w Y n ms mc F2 S2 v5 _ ks2 kc2 Ds2 Dc2) := hide ((HQZ.out.m.net hn5 hf5 fun j hj => .inl hj).below hGY)
            have HN5 := hide hn5
            have HF5 := hide hf5
            have HGY := hide hGY
            have d3 : Y.cell? ⟨g2, 3, none⟩ = some (.int .u64 (id : Int)) := hYB.cell 3 _ HG3.out
            have hid1 := HQZ.out.iv.r id (by rw [HID.out]; exact List.mem_map_of_mem (List.getElem_mem HKQ.out))
            have hidb : U64 id := by have := HQZ.out.iv.s; show id < 18446744073709551616; omega
            have hsb := HQZ.out.iv.c id
            have hlk := mf_look HM5.out.oc HQZ.out.fc id hidb
            obtain ⟨y, hy⟩ : ∃ y, y = cf2 id := ⟨_, rfl⟩
            rw [← hy] at hsb hlk
            have hy1 : 0 ≤ y := hsb.1
            have hy2 : y ≤ 200 := by omega
            obtain ⟨w6, hrun6, ho6, ht6⟩ := mf_store HM5.out.oc HQZ.out.fc (by have := HQZ.out.kb; unfold maxLen; omega) id hidb (y + 1) (by constructor <;> omega)
            have HYV := hide hy
            have HO6 := hide ho6
            have HT6 := hide ht6
            clear hn5 hf5 hGY ho6 ht6 hYB hid1 hidb hsb hy hg2 kD kW2
            go_wp2_with fail
            go_roundg (z - 1)
            case measure => omega
            case rel =>
              obtain ⟨sf', cf', Ds', Dc', ks', kc', hc⟩ := HQZ.out.came HKQ.out HN5.out HF5.out (fun j hj => .inl hj) HGY.out id HID.out.symm (by rw [← HYV.out]; exact HO6.out) HT6.out
              exact ⟨j + 1, z - 1, Nat.le_refl _, by omega, hide ⟨_, _, _, _, _, _, _, _, _, _, hc, by rw [List.length_eraseIdx]; have := HQL.out; split <;> omega⟩⟩
      · have hltz : ¬ (i : Int) < (N : Int) := by omega
        have HZL0 := hide hzl
        clear hzl hz
        go_wp2_with fail
        clear hlt hkx hi hltz
        try clear hi1z
        go_loopg [14] zl (fun kx _ wq => ∃ (j z : Nat), z ≤ kx ∧ j + z ≤ 200 ∧ Hid (∃ F S v Z sf cf ks kc Ds Dc, OSZ w wq n ms mc j F S v Z sf cf ks kc Ds Dc ∧ Z.length = z))
        case atStart => exact ⟨i, zl, Nat.le_refl _, by omega, hide ⟨_, _, _, _, _, _, _, _, _, _, HZ.out, HZL0.out.symm⟩⟩
        case round =>
          obtain ⟨j, z, hzk, hjz, HQ⟩ := hrel
          obtain ⟨F2, S2, v2, Z2, sf2, cf2, ks2, kc2, Ds2, Dc2, hq, hql⟩ := HQ.out
          have kW2 := waiting_any wr n S2 F2 v2 Z2 hq.nt
          rw [hql] at kW2
          have HQZ := hide hq
          have HQL := hide hql
          clear hq hql
          by_cases hz0 : z = 0
          · subst hz0
            have hlen : ∀ ty, (Builtin.len_ #[85] ty #[.map (some ms)]).run Try.prog wr = .ok (.int .i64 (S2 : Int)) wr := fun ty => by
              have := HQZ.out.os.len Try.underlying85 ty
              rw [HQZ.out.mt.size] at this
              exact this
            have hS2 : (S2 : Int) ≤ 200 := by have := HQZ.out.iv.s; omega
            go_wp2_with (go_at_call 22; refine kW2.mono ?_; rintro e w3 ⟨he3, hw3⟩; have hw3 := hw3.symm; subst he3; subst hw3)
            go_loopg [16] S2 (fun kx v16 wq => ∃ x : Nat, v16 = .int .i64 (x : Int) ∧ 1 ≤ x ∧ x ≤ S2 + 1 ∧ S2 + 1 - x ≤ kx ∧ wq = wr)
            case atStart => exact ⟨1, rfl, Nat.le_refl _, by omega, by omega, rfl⟩
            case round =>
              obtain ⟨x, rfl, hx0, hx, hxk, rfl⟩ := hrel
              have HXK := hide hxk
              clear hxk
              by_cases hxs : x ≤ S2
              · have hxz : (x : Int) ≤ (S2 : Int) := by omega
                have hxw : wrap64 ((x : Int) + 1) = (x : Int) + 1 := by rw [← IntWalk.i64_left, IntKind.wrap_i64]; omega
                have hU : U64 x := by show x < 18446744073709551616; omega
                have hl1 := mf_look HQZ.out.os HQZ.out.fs x hU
                have hl2 := mf_look HQZ.out.oc HQZ.out.fc x hU
                have hZn : Z2 = [] := List.eq_nil_of_length_eq_zero HQL.out
                have hdn : cf2 x = sf2 x := by have h := HQZ.out.iv; rw [hZn] at h; exact h.done x hx0 hxs
                rw [hdn] at hl2
                obtain ⟨q, hq⟩ : ∃ q, q = sf2 x := ⟨_, rfl⟩
                rw [← hq] at hl1 hl2
                clear hdn hq hU hZn
                go_wp2_with fail
                go_roundg (S2 - x)
                case measure => have := HXK.out; omega
                case rel => exact ⟨x + 1, rfl, by omega, by omega, by omega, rfl⟩
              · have hxz : ¬ (x : Int) ≤ (S2 : Int) := by omega
                go_wp2_with fail
                go_ret
                exact ⟨rfl, HQZ.out.bl⟩
          · have hz0z : (0 : Int) < (z : Int) := by omega
            have hkq : 0 < Z2.length := by have := HQL.out; omega
            have HKQ := hide hkq
            obtain ⟨-, hM, -⟩ := HQZ.out.nt.e _ (List.getElem_mem hkq)
            have hgd := HQZ.out.gd _ (List.getElem_mem hkq)
            have kD := deliver_any wr n S2 F2 v2 Z2 0 HQZ.out.nt hkq (by have := HQL.out; omega)
            obtain ⟨A, hA⟩ : ∃ A, A = (Z2[0]'HKQ.out).2 := ⟨_, rfl⟩
            obtain ⟨id, hid⟩ : ∃ x, x = idm (Z2[0]'HKQ.out) := ⟨_, rfl⟩
            obtain ⟨hg3, ask, hg4⟩ := hgd
            rw [← hA] at hM kD hg3
            rw [← hid] at hg3
            have HI : Hid ((Try.prog.info? 54).map (·.size) = some A.size) := by apply hide; rw [hM.sz]; exact Try.info_msg
            have H1 := hide hM.one
            have HSZ := hide hM.sz
            have HID := hide hid
            have HG3 := hide hg3
            clear hM hA hid hg3 hg4 hkq
            go_upto_region 38 with (first | (go_at_call 22; refine kW2.mono ?_; rintro e w3 ⟨he3, hw3⟩; have hw3 := hw3.symm; subst he3; subst hw3) | (go_at_call 19; refine kD.mono ?_; rintro e w5 ⟨he5, v5, hn5, hf5⟩; subst he5) | (refine wpList_store_row rfl 54 (.tmp 14) (.tmp 135) rfl w5.heap.size A rfl rfl 54 _ (BxA.new _ _ _) HI.out (by rw [HSZ.out]; rfl) H1.out ?_))
            obtain ⟨Y, hY⟩ : ∃ Y, Y = (w5.alloc (.cells (List.toArray ((Value.int .i64 0) :: (Value.int .i64 0) :: (Value.int .i64 0) :: (Value.int .u64 0) :: (Value.int .u64 0) :: (Value.int .u64 0) :: (Value.int .i64 0) :: (Value.int .u64 0) :: (Value.int .i64 0) :: (Value.int .i64 0) :: (Value.slice none 0 0) :: (Value.slice none 0 0) :: (Value.int .i64 0) :: (Value.int .i64 0) :: (Value.int .i64 0) :: (Value.int .i64 0) :: (Value.slice none 0 0) :: (Value.int .i64 0) :: (Value.int .i64 0) :: (Value.slice none 0 0) :: (Value.int .i64 0) :: (Value.slice none 0 0) :: (Value.slice none 0 0) :: (Value.int .i64 0) :: (Value.int .i64 0) :: (Value.int .i64 0) :: (Value.int .i64 0) :: (Value.int .i64 0) :: (Value.int .i64 0) :: (Value.int .i64 0) :: (Value.int .i64 0) :: (Value.int .i64 0) :: (Value.bool false) :: (Value.int .i64 0) :: (Value.int .i64 0) :: (Value.int .i64 0) :: (Value.int .i64 0) :: (Value.int .i64 0) :: (Value.int .i64 0) :: (Value.slice none 0 0) :: (Value.slice none 0 0) :: [])) 54)).setRow w5.heap.size A := ⟨_, rfl⟩
            have hYB : BxA Y w5.heap.size 54 A := by rw [hY]; exact setRow_heap _ _ _ A _ _ (BxA.new _ _ _)
            have hGY : Below w5.heap.size w5 Y := by rw [hY]; exact ((Grows.alloc _ _).setRow A (Nat.le_refl _)).below
            rw [← hY]
            clear hY
            obtain ⟨g2, hg2⟩ : ∃ g, g = w5.heap.size := ⟨_, rfl⟩
            rw [← hg2] at hYB ⊢
            have HM5 : Hid (OSM w Y n ms mc F2 S2 v5 _ ks2 kc2 Ds2 Dc2) := hide ((HQZ.out.m.net hn5 hf5 fun j hj => .inl hj).below hGY)
            have HN5 := hide hn5
            have HF5 := hide hf5
            have HGY := hide hGY
            have d3 : Y.cell? ⟨g2, 3, none⟩ = some (.int .u64 (id : Int)) := hYB.cell 3 _ HG3.out
            have hid1 := HQZ.out.iv.r id (by rw [HID.out]; exact List.mem_map_of_mem (List.getElem_mem HKQ.out))
            have hidb : U64 id := by have := HQZ.out.iv.s; show id < 18446744073709551616; omega
            have hsb := HQZ.out.iv.c id
            have hlk := mf_look HM5.out.oc HQZ.out.fc id hidb
            obtain ⟨y, hy⟩ : ∃ y, y = cf2 id := ⟨_, rfl⟩
            rw [← hy] at hsb hlk
            have hy1 : 0 ≤ y := hsb.1
            have hy2 : y ≤ 200 := by omega
            obtain ⟨w6, hrun6, ho6, ht6⟩ := mf_store HM5.out.oc HQZ.out.fc (by have := HQZ.out.kb; unfold maxLen; omega) id hidb (y + 1) (by constructor <;> omega)
            have HYV := hide hy
            have HO6 := hide ho6
            have HT6 := hide ht6
            clear hn5 hf5 hGY ho6 ht6 hYB hid1 hidb hsb hy hg2 kD kW2
            go_wp2_with fail
            go_roundg (z - 1)
            case measure => omega
            case rel =>
              obtain ⟨sf', cf', Ds', Dc', ks', kc', hc⟩ := HQZ.out.came HKQ.out HN5.out HF5.out (fun j hj => .inl hj) HGY.out id HID.out.symm (by rw [← HYV.out]; exact HO6.out) HT6.out
              exact ⟨j + 1, z - 1, Nat.le_refl _, by omega, hide ⟨_, _, _, _, _, _, _, _, _, _, hc, by rw [List.length_eraseIdx]; have := HQL.out; split <;> omega⟩⟩
end Go.Proofs.Ytnkllgpibmofiaa
