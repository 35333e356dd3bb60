/- Contracts: keys. -/
import Derived.Test.YtgbmigfamefenaaKyM
namespace Go.Proofs.Ytgbmigfamefenaa
open Go.RowKit Go.Maps Go.Sort
set_option linter.unusedVariables false

theorem lit_ownK (w : World) (cs : List Value) (t : TypeId) (n k : Nat) (hk : cs.length = n * k) (hm : n ≤ maxLen) : (w.alloc (.cells cs.toArray t)).ownsRow w.heap.size t k (.slice (some ⟨w.heap.size, 0, none⟩) n n) n cs := World.ownsRow_lit (base := w.heap.size) (e := t) (size := k) w cs.toArray n (Nat.le_refl _) hm (by simpa using hk)
theorem Try.info_key : (Try.prog.info? 55).map (fun i => (i.zero, i.size, i.bytes)) = some (some (.agg #[.int .i64 0, .int .i64 0, .int .i64 0]), 3, 24) := by kernel_rfl
set_option maxRecDepth 100000 in
set_option maxHeartbeats 3200000 in
theorem keys_c (w : World) (t : Nat) (F : Nat → Prop) (s : List Es) (c1 c2 : Value) (p : K3 → Bool) (h : Tl w t F s) (hfew : s.length ≤ 100000)
    (hclo : ∀ w', Below w.heap.size w w' → ∀ e ∈ s, Calls Try.prog 46 #[.agg #[.int .i64 e.1.1, .int .i64 e.1.2.1, .int .i64 e.1.2.2], c1, c2] w' fun r w'' => r = .returned (.bool (p e.1)) ∧ Grows w' w'') :
    Calls Try.prog 38 #[.pointer (some ⟨t, 0, none⟩), .func (.func 46) #[] #[c1, c2]] w fun ev w' => ∃ v, ev = .returned v ∧ RdsK 3 w' v (keysF p s).length (kcs (keysF p s)) ∧ Below w.heap.size w w' := by
  obtain ⟨i0, hi0, hi1, hi2, hi3⟩ := info_parts Try.info_key
  obtain ⟨mo, Z, hz⟩ := h
  have c0 : w.cell? ⟨t, 0, none⟩ = some (.map mo) := hz.b.cell 0 _ rfl
  have HZ : Hid (TlZ w t F s mo Z) := hz
  have HCL : Hid (∀ w', Below w.heap.size w w' → ∀ e ∈ s, Calls Try.prog 46 #[.agg #[.int .i64 e.1.1, .int .i64 e.1.2.1, .int .i64 e.1.2.2], c1, c2] w' fun r w'' => r = .returned (.bool (p e.1)) ∧ Grows w' w'') := hclo
  have hZl : Z.length ≤ 100000 := by have := congrArg List.length hz.fs; rw [List.length_map] at this; omega
  clear hclo hfew
  rcases hz.m with ⟨rfl, rfl⟩ | ⟨m, D, rfl, hown, hmd⟩
  · have hrg := run_range_nilMap (P := Try.prog) w 61 55 67 Try.underlying61
    have hnx : ∀ ty, (Instr.next (.pointer (some ⟨w.heap.size, 0, none⟩)) false ty).run Try.prog (w.alloc (.mapIter none 0 #[] 0)) = _ := fun ty => run_next_nilMap w ty 0 0 #[]
    have kS := sort_any (w.alloc (.mapIter none 0 #[] 0)) (w.heap.size) (.slice none 0 0) [] ⟨rfl, .inl ⟨rfl, rfl⟩⟩ (by simp) (by simp)
    have HE0 : Hid (keysF p s = []) := by
      apply hide
      rw [← hz.fs]
      simp [keysF, srtK]
    clear hz
    go_enter Try.func38, Try.ntmps38
    go_wp2_with fail
    refine wp_loop_rounds 1 ?_
    rw [rounds_succ]
    go_wp2_with fail
    refine kS.mono ?_
    rintro ev w1 ⟨rfl, l', hp, -, hr, hb⟩
    have hl : l' = [] := List.perm_nil.1 hp
    subst hl
    have H1 : Hid (RdsK 3 w1 (.slice none 0 0) 0 (kcs []) ∧ Below w.heap.size (w.alloc (.mapIter none 0 #[] 0)) w1) := ⟨hr, hb⟩
    clear kS hp hr hb
    go_wp2_with fail
    go_ret
    rw [HE0.out]
    exact ⟨_, rfl, H1.out.1, ((Below.refl _ w).alloc (Nat.le_refl _) _).trans H1.out.2⟩
  · have HM : Hid (w.ownsMap Try.prog 55 sel m Z.length D) := hown
    have HMD : Hid (MD D Z) := hmd
    have hmdl : ∀ e ∈ Z, Maps.has D (kl e.k) = true := fun e he => by
      rw [hmd.has e.k (hz.e e he).b3, List.any_eq_true]
      exact ⟨e, he, by simp⟩
    have HL0 : Hid (donK (Maps.has D) p Z = []) := donK_start hmdl
    have HSZ : Hid (Maps.size D = Z.length) := hmd.size
    clear hz hown hmd hmdl
    go_enter Try.func38, Try.ntmps38
    go_wp2_with (first | (at_range; refine wpList_range_own _ rfl _ 61 rfl 55 67 law Try.underlying61 _ m Z.length D rfl HM.out ?_; intro w0 hrg0 hg0 hs0))
    go_frame
    have HR0 : Hid (w0.ranges Try.prog 55 sel m w.heap.size Z.length D (Maps.has D) (Maps.size D)) := hrg0
    have HG0 : Hid (w.grownBy w0 none) := hg0
    clear hrg0 hg0
    go_loopg [5, 6] Z.length (fun kx v5 _ wr => ∃ (left : Lit → Bool) (cnt : Nat) (acc : List K3) (x5 : Value), x5 = v5 ∧ cnt ≤ kx ∧ Hid (wr.ranges Try.prog 55 sel m w.heap.size Z.length D left cnt) ∧ Hid (wr.ownsRow (w.heap.size + 1) 55 3 x5 acc.length (kcs acc)) ∧ Hid (acc.Perm (donK left p Z)) ∧ Hid (Below w.heap.size w wr) ∧ Hid (w.heap.size < wr.heap.size))
    case atStart => exact ⟨Maps.has D, Maps.size D, [], _, rfl, by rw [HSZ.out]; exact Nat.le_refl _, HR0, ⟨rfl, .inl ⟨rfl, rfl⟩⟩, by apply hide; rw [HL0.out], ⟨HG0.out.os, HG0.out.tape, HG0.out.output, HG0.out.size, fun i hi => HG0.out.block i hi (by simp)⟩, by apply hide; omega⟩
    case round =>
      obtain ⟨left, cnt, acc, x5, rfl, hcnt, HR, HA, HP, HB, HS⟩ := hrel
      have hal : acc.length ≤ 100000 := by
        have h1 := HP.out.length_eq
        have h2 := donK_len (left := left) (p := p) (Z := Z)
        omega
      go_wp2_with (first | (at_next; refine wpList_next_ranges _ rfl _ rfl 55 law sel (fun x : K3 => Value.agg #[.int .i64 x.1, .int .i64 x.2.1, .int .i64 x.2.2]) mkV key_inv' inv_sel m w.heap.size Z.length D left cnt rfl HR.out ?_ ?_))
      · intro _ hl0
        have HL : Hid _ := hl0
        have kS := sort_any wr (w.heap.size + 1) x5 acc HA.out HS.out (by omega)
        clear hl0
        go_wp2_with fail
        refine kS.mono ?_
        rintro ev w2 ⟨rfl, l', hp, hr, o2, b2⟩
        have H2 : Hid (l'.Perm acc ∧ (l'.Pairwise fun a b => ¬ Stn b a) ∧ RdsK 3 w2 x5 l'.length (kcs l') ∧ Below (w.heap.size + 1) wr w2) := ⟨hp, hr, o2, b2⟩
        clear kS o2 b2 hp hr
        go_wp2_with fail
        go_ret
        have he : l' = keysF p s := keysF_eq HZ.out p (by rw [← donK_end HL.out]; exact H2.out.1.trans HP.out) H2.out.2.1
        rw [← he]
        exact ⟨_, rfl, H2.out.2.2.1, HB.out.trans (H2.out.2.2.2.mono (Nat.le_succ _))⟩
      · intro x1 x2 x3 cz cg cn cm kq y1 y2 w1 cnt1 hkey hlk hp hat hrg1 hlt hg1 hs1 hen
        obtain ⟨hb3, hkq⟩ := key_b3 (x := (x1, x2, x3)) hkey
        subst hkq
        obtain ⟨e, he, hex⟩ := entry_of (y := (y1, y2)) HMD.out hb3 hat
        have hle : left (kl e.k) = true := by rw [hex]; exact hlk
        have hBE : Below w.heap.size wr w1 := ⟨hg1.os, hg1.tape, hg1.output, hg1.size, fun i hi => hg1.block i (by have := HS.out; omega) (fun q => by simp only [Option.some.injEq] at q; omega)⟩
        have hes : (((x1, x2, x3), e.core, e.ps) : Es) ∈ s := by rw [← HZ.out.fs]; exact List.mem_map.2 ⟨e, he, by rw [← hex]; rfl⟩
        obtain ⟨w2, hw2⟩ : ∃ w2, w2 = w1.alloc (.cells #[.int .i64 x1, .int .i64 x2, .int .i64 x3] 55) := ⟨_, rfl⟩
        have hb12 : Below w1.heap.size w1 w2 := by rw [hw2]; exact (Below.refl _ _).alloc (Nat.le_refl _) _
        have HBB : Hid (Below w.heap.size w w2) := (HB.out.trans hBE).trans (hb12.mono (HB.out.trans hBE).size)
        have kC := HCL.out w2 HBB.out _ hes
        have HE1 : Hid (e ∈ Z ∧ e.k = (x1, x2, x3) ∧ left (kl e.k) = true ∧ w1.ranges Try.prog 55 sel m w.heap.size Z.length D (fun z => left z && !z.sameKey (kl (x1, x2, x3))) cnt1 ∧ wr.grownBy w1 (some w.heap.size) ∧ cnt1 < cnt) := ⟨he, hex, hle, hrg1, hg1, hlt⟩
        have HA1 : Hid (w1.ownsRow (w.heap.size + 1) 55 3 x5 acc.length (kcs acc)) := by
          apply hide
          exact owns_block HA.out fun r hr => hg1.block r (own_lt HA.out r hr).2 (fun q => by simp only [Option.some.injEq] at q; have := (own_lt HA.out r hr).1; omega)
        have HW2 : Hid (w2 = w1.alloc (.cells #[.int .i64 x1, .int .i64 x2, .int .i64 x3] 55)) := hw2
        have hsz1 : w.heap.size + 1 ≤ w1.heap.size := by have := HS.out; omega
        have hbx : BxA w2 w1.heap.size 55 #[.int .i64 x1, .int .i64 x2, .int .i64 x3] := by rw [hw2]; exact BxA.new _ _ _
        have HBX : Hid _ := hbx
        obtain ⟨q, hq⟩ : ∃ q, q = p (x1, x2, x3) := ⟨_, rfl⟩
        simp only at kC
        rw [← hq] at kC
        have HQ : Hid (q = p (x1, x2, x3)) := hq
        have HS2 : Hid (w1.heap.size < w2.heap.size) := by apply hide; rw [hw2]; simp
        clear he hex hle hkey hlk hp hat hrg1 hg1 hlt hs1 hq hes hb12 hBE hw2 hb3 hbx
        go_wp2_with fail
        rw [← HW2.out]
        go_wp2_with fail
        refine kC.mono ?_
        rintro ev w3 ⟨rfl, g3⟩
        have HG3 : Hid (Below w2.heap.size w2 w3) := g3.below
        have HA3 : Hid (w3.ownsRow (w.heap.size + 1) 55 3 x5 acc.length (kcs acc)) := by
          apply hide
          have h1 : w2.ownsRow (w.heap.size + 1) 55 3 x5 acc.length (kcs acc) := by rw [HW2.out]; exact World.ownsRow.alloc HA1.out _
          exact owns_block h1 fun r hr => HG3.out.block r (own_lt h1 r hr).2
        have HB3' : Hid (Below w.heap.size w w3) := HBB.out.trans (HG3.out.mono HBB.out.size)
        have HR3 : Hid (w3.ranges Try.prog 55 sel m w.heap.size Z.length D (fun z => left z && !z.sameKey (kl (x1, x2, x3))) cnt1) := by
          apply hide
          have h1 : w2.ranges Try.prog 55 sel m w.heap.size Z.length D (fun z => left z && !z.sameKey (kl (x1, x2, x3))) cnt1 := HE1.out.2.2.2.1.kept (by rw [HW2.out]; exact grown_alloc _ none _) (by simp) (by simp)
          exact h1.kept (row := none) ⟨HG3.out.os, HG3.out.tape, HG3.out.output, HG3.out.size, fun i hi _ => HG3.out.block i hi⟩ (by simp) (by simp)
        have d0 : w3.cell? ⟨w1.heap.size, 0, none⟩ = some (.int .i64 x1) := by rw [HG3.out.cell (by exact HS2.out)]; exact BxA.cell HBX.out 0 _ rfl
        have d1 : w3.cell? ⟨w1.heap.size, 1, none⟩ = some (.int .i64 x2) := by rw [HG3.out.cell (by exact HS2.out)]; exact BxA.cell HBX.out 1 _ rfl
        have d2 : w3.cell? ⟨w1.heap.size, 2, none⟩ = some (.int .i64 x3) := by rw [HG3.out.cell (by exact HS2.out)]; exact BxA.cell HBX.out 2 _ rfl
        have hsz3 : w.heap.size + 1 ≤ w3.heap.size := by have := HG3.out.size; have := HS2.out; omega
        clear kC g3
        cases q
        case false =>
          go_wp2_with fail
          obtain ⟨he, hex, hle, -, hg1, hlt⟩ := HE1.out
          go_roundg cnt1
          case measure => omega
          case rel =>
            have hst := donK_step (p := p) HZ.out.ap (fun x hx => (HZ.out.e x hx).b3) he hle
            rw [hex, ← HQ.out] at hst
            refine ⟨_, cnt1, acc, x5, rfl, Nat.le_refl _, HR3, HA3, ?_, HB3', ?_⟩
            · apply hide
              exact HP.out.trans hst.symm
            · apply hide; omega
        case true =>
          obtain ⟨w4, hw4⟩ : ∃ w4, w4 = w3.alloc (.cells #[.int .i64 x1, .int .i64 x2, .int .i64 x3] 55) := ⟨_, rfl⟩
          have HLO : Hid (RdsK 3 w4 (.slice (some ⟨w3.heap.size, 0, none⟩) 1 1) 1 [.int .i64 x1, .int .i64 x2, .int .i64 x3]) := by apply hide; rw [hw4]; exact RdsK.of_own (lit_ownK w3 [.int .i64 x1, .int .i64 x2, .int .i64 x3] 55 1 3 rfl (by simp [maxLen]))
          have HAO : Hid (w4.ownsRow (w.heap.size + 1) 55 3 x5 acc.length (kcs acc)) := by apply hide; rw [hw4]; exact World.ownsRow.alloc HA3.out _
          have HW4 : Hid (w4 = w3.alloc (.cells #[.int .i64 x1, .int .i64 x2, .int .i64 x3] 55)) := hw4
          have hsz4 : w.heap.size + 1 ≤ w4.heap.size := by rw [hw4]; simp; omega
          clear hw4
          go_upto_region 6 with fail
          go_wp2_with (first | (at_builtin; rw [← HW4.out]; refine wpList_appF rfl _ _ 52 rfl (w.heap.size + 1) 55 i0 (.agg #[.int .i64 0, .int .i64 0, .int .i64 0]) 3 24 Try.underlying52 hi0 hi1 hi2 hi3 rfl (by decide) x5 acc.length (kcs acc) rfl HAO.out (.slice (some ⟨w3.heap.size, 0, none⟩) 1 1) 1 [.int .i64 x1, .int .i64 x2, .int .i64 x3] rfl HLO.out (fun u hu => by simp at hu; rcases hu with rfl | rfl | rfl <;> rfl) (by unfold maxLen; omega) (by omega) hsz4 ?_; intro v5 w5 o5 g5 _; have H5 : Hid (w5.ownsRow (w.heap.size + 1) 55 3 v5 (acc.length + 1) (kcs acc ++ [.int .i64 x1, .int .i64 x2, .int .i64 x3]) ∧ w4.grownBy w5 x5.ownBlock) := ⟨o5, g5⟩; clear o5 g5))
          go_wp2_with fail
          obtain ⟨he, hex, hle, -, hg1, hlt⟩ := HE1.out
          obtain ⟨o5, g5⟩ := H5.out
          have gA : w3.grownBy w5 x5.ownBlock := grown_trans (by rw [HW4.out]; exact grown_alloc _ _ _) g5
          have hxb : ∀ r, x5.ownBlock = some r → w.heap.size + 1 ≤ r := fun r hr => (own_lt HA3.out r hr).1
          go_roundg cnt1
          case measure => omega
          case rel =>
            have hst := donK_step (p := p) HZ.out.ap (fun x hx => (HZ.out.e x hx).b3) he hle
            rw [hex, ← HQ.out] at hst
            refine ⟨_, cnt1, acc ++ [(x1, x2, x3)], v5, rfl, Nat.le_refl _, HR3.out.kept gA ?_ ?_, ?_, ?_, ?_, ?_⟩
            · intro q
              have h1 := hxb m q.symm
              have h2 := HZ.out.lt m (HZ.out.fm m rfl)
              omega
            · intro q
              have h1 := hxb _ q.symm
              omega
            · apply hide
              rw [kcs_append, List.length_append]
              exact o5
            · apply hide
              refine (HP.out.append_right [(x1, x2, x3)]).trans ?_
              rw [if_pos rfl] at hst
              exact hst.symm
            · refine HB3'.out.trans ⟨gA.os, gA.tape, gA.output, gA.size, fun i hi => gA.block i (by omega) fun q => ?_⟩
              have h1 := hxb i q.symm
              omega
            · apply hide
              have := gA.size
              omega
set_option maxRecDepth 100000 in
set_option maxHeartbeats 3200000 in
theorem keys_v (w : World) (t : Nat) (F : Nat → Prop) (s : List Es) (c1 : Value) (p : K3 → Bool) (h : Tl w t F s) (hfew : s.length ≤ 100000)
    (hclo : ∀ w', Below w.heap.size w w' → ∀ e ∈ s, Calls Try.prog 39 #[.agg #[.int .i64 e.1.1, .int .i64 e.1.2.1, .int .i64 e.1.2.2], c1] w' fun r w'' => r = .returned (.bool (p e.1)) ∧ Grows w' w'') :
    Calls Try.prog 38 #[.pointer (some ⟨t, 0, none⟩), .func (.func 39) #[] #[c1]] w fun ev w' => ∃ v, ev = .returned v ∧ RdsK 3 w' v (keysF p s).length (kcs (keysF p s)) ∧ Below w.heap.size w w' := by
  obtain ⟨i0, hi0, hi1, hi2, hi3⟩ := info_parts Try.info_key
  obtain ⟨mo, Z, hz⟩ := h
  have c0 : w.cell? ⟨t, 0, none⟩ = some (.map mo) := hz.b.cell 0 _ rfl
  have HZ : Hid (TlZ w t F s mo Z) := hz
  have HCL : Hid (∀ w', Below w.heap.size w w' → ∀ e ∈ s, Calls Try.prog 39 #[.agg #[.int .i64 e.1.1, .int .i64 e.1.2.1, .int .i64 e.1.2.2], c1] w' fun r w'' => r = .returned (.bool (p e.1)) ∧ Grows w' w'') := hclo
  have hZl : Z.length ≤ 100000 := by have := congrArg List.length hz.fs; rw [List.length_map] at this; omega
  clear hclo hfew
  rcases hz.m with ⟨rfl, rfl⟩ | ⟨m, D, rfl, hown, hmd⟩
  · have hrg := run_range_nilMap (P := Try.prog) w 61 55 67 Try.underlying61
    have hnx : ∀ ty, (Instr.next (.pointer (some ⟨w.heap.size, 0, none⟩)) false ty).run Try.prog (w.alloc (.mapIter none 0 #[] 0)) = _ := fun ty => run_next_nilMap w ty 0 0 #[]
    have kS := sort_any (w.alloc (.mapIter none 0 #[] 0)) (w.heap.size) (.slice none 0 0) [] ⟨rfl, .inl ⟨rfl, rfl⟩⟩ (by simp) (by simp)
    have HE0 : Hid (keysF p s = []) := by
      apply hide
      rw [← hz.fs]
      simp [keysF, srtK]
    clear hz
    go_enter Try.func38, Try.ntmps38
    go_wp2_with fail
    refine wp_loop_rounds 1 ?_
    rw [rounds_succ]
    go_wp2_with fail
    refine kS.mono ?_
    rintro ev w1 ⟨rfl, l', hp, -, hr, hb⟩
    have hl : l' = [] := List.perm_nil.1 hp
    subst hl
    have H1 : Hid (RdsK 3 w1 (.slice none 0 0) 0 (kcs []) ∧ Below w.heap.size (w.alloc (.mapIter none 0 #[] 0)) w1) := ⟨hr, hb⟩
    clear kS hp hr hb
    go_wp2_with fail
    go_ret
    rw [HE0.out]
    exact ⟨_, rfl, H1.out.1, ((Below.refl _ w).alloc (Nat.le_refl _) _).trans H1.out.2⟩
  · have HM : Hid (w.ownsMap Try.prog 55 sel m Z.length D) := hown
    have HMD : Hid (MD D Z) := hmd
    have hmdl : ∀ e ∈ Z, Maps.has D (kl e.k) = true := fun e he => by
      rw [hmd.has e.k (hz.e e he).b3, List.any_eq_true]
      exact ⟨e, he, by simp⟩
    have HL0 : Hid (donK (Maps.has D) p Z = []) := donK_start hmdl
    have HSZ : Hid (Maps.size D = Z.length) := hmd.size
    clear hz hown hmd hmdl
    go_enter Try.func38, Try.ntmps38
    go_wp2_with (first | (at_range; refine wpList_range_own _ rfl _ 61 rfl 55 67 law Try.underlying61 _ m Z.length D rfl HM.out ?_; intro w0 hrg0 hg0 hs0))
    go_frame
    have HR0 : Hid (w0.ranges Try.prog 55 sel m w.heap.size Z.length D (Maps.has D) (Maps.size D)) := hrg0
    have HG0 : Hid (w.grownBy w0 none) := hg0
    clear hrg0 hg0
    go_loopg [5, 6] Z.length (fun kx v5 _ wr => ∃ (left : Lit → Bool) (cnt : Nat) (acc : List K3) (x5 : Value), x5 = v5 ∧ cnt ≤ kx ∧ Hid (wr.ranges Try.prog 55 sel m w.heap.size Z.length D left cnt) ∧ Hid (wr.ownsRow (w.heap.size + 1) 55 3 x5 acc.length (kcs acc)) ∧ Hid (acc.Perm (donK left p Z)) ∧ Hid (Below w.heap.size w wr) ∧ Hid (w.heap.size < wr.heap.size))
    case atStart => exact ⟨Maps.has D, Maps.size D, [], _, rfl, by rw [HSZ.out]; exact Nat.le_refl _, HR0, ⟨rfl, .inl ⟨rfl, rfl⟩⟩, by apply hide; rw [HL0.out], ⟨HG0.out.os, HG0.out.tape, HG0.out.output, HG0.out.size, fun i hi => HG0.out.block i hi (by simp)⟩, by apply hide; omega⟩
    case round =>
      obtain ⟨left, cnt, acc, x5, rfl, hcnt, HR, HA, HP, HB, HS⟩ := hrel
      have hal : acc.length ≤ 100000 := by
        have h1 := HP.out.length_eq
        have h2 := donK_len (left := left) (p := p) (Z := Z)
        omega
      go_wp2_with (first | (at_next; refine wpList_next_ranges _ rfl _ rfl 55 law sel (fun x : K3 => Value.agg #[.int .i64 x.1, .int .i64 x.2.1, .int .i64 x.2.2]) mkV key_inv' inv_sel m w.heap.size Z.length D left cnt rfl HR.out ?_ ?_))
      · intro _ hl0
        have HL : Hid _ := hl0
        have kS := sort_any wr (w.heap.size + 1) x5 acc HA.out HS.out (by omega)
        clear hl0
        go_wp2_with fail
        refine kS.mono ?_
        rintro ev w2 ⟨rfl, l', hp, hr, o2, b2⟩
        have H2 : Hid (l'.Perm acc ∧ (l'.Pairwise fun a b => ¬ Stn b a) ∧ RdsK 3 w2 x5 l'.length (kcs l') ∧ Below (w.heap.size + 1) wr w2) := ⟨hp, hr, o2, b2⟩
        clear kS o2 b2 hp hr
        go_wp2_with fail
        go_ret
        have he : l' = keysF p s := keysF_eq HZ.out p (by rw [← donK_end HL.out]; exact H2.out.1.trans HP.out) H2.out.2.1
        rw [← he]
        exact ⟨_, rfl, H2.out.2.2.1, HB.out.trans (H2.out.2.2.2.mono (Nat.le_succ _))⟩
      · intro x1 x2 x3 cz cg cn cm kq y1 y2 w1 cnt1 hkey hlk hp hat hrg1 hlt hg1 hs1 hen
        obtain ⟨hb3, hkq⟩ := key_b3 (x := (x1, x2, x3)) hkey
        subst hkq
        obtain ⟨e, he, hex⟩ := entry_of (y := (y1, y2)) HMD.out hb3 hat
        have hle : left (kl e.k) = true := by rw [hex]; exact hlk
        have hBE : Below w.heap.size wr w1 := ⟨hg1.os, hg1.tape, hg1.output, hg1.size, fun i hi => hg1.block i (by have := HS.out; omega) (fun q => by simp only [Option.some.injEq] at q; omega)⟩
        have hes : (((x1, x2, x3), e.core, e.ps) : Es) ∈ s := by rw [← HZ.out.fs]; exact List.mem_map.2 ⟨e, he, by rw [← hex]; rfl⟩
        obtain ⟨w2, hw2⟩ : ∃ w2, w2 = w1.alloc (.cells #[.int .i64 x1, .int .i64 x2, .int .i64 x3] 55) := ⟨_, rfl⟩
        have hb12 : Below w1.heap.size w1 w2 := by rw [hw2]; exact (Below.refl _ _).alloc (Nat.le_refl _) _
        have HBB : Hid (Below w.heap.size w w2) := (HB.out.trans hBE).trans (hb12.mono (HB.out.trans hBE).size)
        have kC := HCL.out w2 HBB.out _ hes
        have HE1 : Hid (e ∈ Z ∧ e.k = (x1, x2, x3) ∧ left (kl e.k) = true ∧ w1.ranges Try.prog 55 sel m w.heap.size Z.length D (fun z => left z && !z.sameKey (kl (x1, x2, x3))) cnt1 ∧ wr.grownBy w1 (some w.heap.size) ∧ cnt1 < cnt) := ⟨he, hex, hle, hrg1, hg1, hlt⟩
        have HA1 : Hid (w1.ownsRow (w.heap.size + 1) 55 3 x5 acc.length (kcs acc)) := by
          apply hide
          exact owns_block HA.out fun r hr => hg1.block r (own_lt HA.out r hr).2 (fun q => by simp only [Option.some.injEq] at q; have := (own_lt HA.out r hr).1; omega)
        have HW2 : Hid (w2 = w1.alloc (.cells #[.int .i64 x1, .int .i64 x2, .int .i64 x3] 55)) := hw2
        have hsz1 : w.heap.size + 1 ≤ w1.heap.size := by have := HS.out; omega
        have hbx : BxA w2 w1.heap.size 55 #[.int .i64 x1, .int .i64 x2, .int .i64 x3] := by rw [hw2]; exact BxA.new _ _ _
        have HBX : Hid _ := hbx
        obtain ⟨q, hq⟩ : ∃ q, q = p (x1, x2, x3) := ⟨_, rfl⟩
        simp only at kC
        rw [← hq] at kC
        have HQ : Hid (q = p (x1, x2, x3)) := hq
        have HS2 : Hid (w1.heap.size < w2.heap.size) := by apply hide; rw [hw2]; simp
        clear he hex hle hkey hlk hp hat hrg1 hg1 hlt hs1 hq hes hb12 hBE hw2 hb3 hbx
        go_wp2_with fail
        rw [← HW2.out]
        go_wp2_with fail
        refine kC.mono ?_
        rintro ev w3 ⟨rfl, g3⟩
        have HG3 : Hid (Below w2.heap.size w2 w3) := g3.below
        have HA3 : Hid (w3.ownsRow (w.heap.size + 1) 55 3 x5 acc.length (kcs acc)) := by
          apply hide
          have h1 : w2.ownsRow (w.heap.size + 1) 55 3 x5 acc.length (kcs acc) := by rw [HW2.out]; exact World.ownsRow.alloc HA1.out _
          exact owns_block h1 fun r hr => HG3.out.block r (own_lt h1 r hr).2
        have HB3' : Hid (Below w.heap.size w w3) := HBB.out.trans (HG3.out.mono HBB.out.size)
        have HR3 : Hid (w3.ranges Try.prog 55 sel m w.heap.size Z.length D (fun z => left z && !z.sameKey (kl (x1, x2, x3))) cnt1) := by
          apply hide
          have h1 : w2.ranges Try.prog 55 sel m w.heap.size Z.length D (fun z => left z && !z.sameKey (kl (x1, x2, x3))) cnt1 := HE1.out.2.2.2.1.kept (by rw [HW2.out]; exact grown_alloc _ none _) (by simp) (by simp)
          exact h1.kept (row := none) ⟨HG3.out.os, HG3.out.tape, HG3.out.output, HG3.out.size, fun i hi _ => HG3.out.block i hi⟩ (by simp) (by simp)
        have d0 : w3.cell? ⟨w1.heap.size, 0, none⟩ = some (.int .i64 x1) := by rw [HG3.out.cell (by exact HS2.out)]; exact BxA.cell HBX.out 0 _ rfl
        have d1 : w3.cell? ⟨w1.heap.size, 1, none⟩ = some (.int .i64 x2) := by rw [HG3.out.cell (by exact HS2.out)]; exact BxA.cell HBX.out 1 _ rfl
        have d2 : w3.cell? ⟨w1.heap.size, 2, none⟩ = some (.int .i64 x3) := by rw [HG3.out.cell (by exact HS2.out)]; exact BxA.cell HBX.out 2 _ rfl
        have hsz3 : w.heap.size + 1 ≤ w3.heap.size := by have := HG3.out.size; have := HS2.out; omega
        clear kC g3
        cases q
        case false =>
          go_wp2_with fail
          obtain ⟨he, hex, hle, -, hg1, hlt⟩ := HE1.out
          go_roundg cnt1
          case measure => omega
          case rel =>
            have hst := donK_step (p := p) HZ.out.ap (fun x hx => (HZ.out.e x hx).b3) he hle
            rw [hex, ← HQ.out] at hst
            refine ⟨_, cnt1, acc, x5, rfl, Nat.le_refl _, HR3, HA3, ?_, HB3', ?_⟩
            · apply hide
              exact HP.out.trans hst.symm
            · apply hide; omega
        case true =>
          obtain ⟨w4, hw4⟩ : ∃ w4, w4 = w3.alloc (.cells #[.int .i64 x1, .int .i64 x2, .int .i64 x3] 55) := ⟨_, rfl⟩
          have HLO : Hid (RdsK 3 w4 (.slice (some ⟨w3.heap.size, 0, none⟩) 1 1) 1 [.int .i64 x1, .int .i64 x2, .int .i64 x3]) := by apply hide; rw [hw4]; exact RdsK.of_own (lit_ownK w3 [.int .i64 x1, .int .i64 x2, .int .i64 x3] 55 1 3 rfl (by simp [maxLen]))
          have HAO : Hid (w4.ownsRow (w.heap.size + 1) 55 3 x5 acc.length (kcs acc)) := by apply hide; rw [hw4]; exact World.ownsRow.alloc HA3.out _
          have HW4 : Hid (w4 = w3.alloc (.cells #[.int .i64 x1, .int .i64 x2, .int .i64 x3] 55)) := hw4
          have hsz4 : w.heap.size + 1 ≤ w4.heap.size := by rw [hw4]; simp; omega
          clear hw4
          go_upto_region 6 with fail
          go_wp2_with (first | (at_builtin; rw [← HW4.out]; refine wpList_appF rfl _ _ 52 rfl (w.heap.size + 1) 55 i0 (.agg #[.int .i64 0, .int .i64 0, .int .i64 0]) 3 24 Try.underlying52 hi0 hi1 hi2 hi3 rfl (by decide) x5 acc.length (kcs acc) rfl HAO.out (.slice (some ⟨w3.heap.size, 0, none⟩) 1 1) 1 [.int .i64 x1, .int .i64 x2, .int .i64 x3] rfl HLO.out (fun u hu => by simp at hu; rcases hu with rfl | rfl | rfl <;> rfl) (by unfold maxLen; omega) (by omega) hsz4 ?_; intro v5 w5 o5 g5 _; have H5 : Hid (w5.ownsRow (w.heap.size + 1) 55 3 v5 (acc.length + 1) (kcs acc ++ [.int .i64 x1, .int .i64 x2, .int .i64 x3]) ∧ w4.grownBy w5 x5.ownBlock) := ⟨o5, g5⟩; clear o5 g5))
          go_wp2_with fail
          obtain ⟨he, hex, hle, -, hg1, hlt⟩ := HE1.out
          obtain ⟨o5, g5⟩ := H5.out
          have gA : w3.grownBy w5 x5.ownBlock := grown_trans (by rw [HW4.out]; exact grown_alloc _ _ _) g5
          have hxb : ∀ r, x5.ownBlock = some r → w.heap.size + 1 ≤ r := fun r hr => (own_lt HA3.out r hr).1
          go_roundg cnt1
          case measure => omega
          case rel =>
            have hst := donK_step (p := p) HZ.out.ap (fun x hx => (HZ.out.e x hx).b3) he hle
            rw [hex, ← HQ.out] at hst
            refine ⟨_, cnt1, acc ++ [(x1, x2, x3)], v5, rfl, Nat.le_refl _, HR3.out.kept gA ?_ ?_, ?_, ?_, ?_, ?_⟩
            · intro q
              have h1 := hxb m q.symm
              have h2 := HZ.out.lt m (HZ.out.fm m rfl)
              omega
            · intro q
              have h1 := hxb _ q.symm
              omega
            · apply hide
              rw [kcs_append, List.length_append]
              exact o5
            · apply hide
              refine (HP.out.append_right [(x1, x2, x3)]).trans ?_
              rw [if_pos rfl] at hst
              exact hst.symm
            · refine HB3'.out.trans ⟨gA.os, gA.tape, gA.output, gA.size, fun i hi => gA.block i (by omega) fun q => ?_⟩
              have h1 := hxb i q.symm
              omega
            · apply hide
              have := gA.size
              omega
end Go.Proofs.Ytgbmigfamefenaa
