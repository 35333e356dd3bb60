/- Wherever the power goes off: each blob that was told to be put is as it was put. -/
import Derived.Test.YthegdhbmfojdaaaKcM
import Derived.Test.YthegdhbmfojdaaaPreB
namespace Go.Proofs.Ythegdhbmfojdaaa
open Go.RowKit Go.Maps Go.Sort
set_option linter.unusedVariables false

theorem made_i4 : (madeCells (Value.int .i64 0).cells (4 * 1)).toList = iv [0, 0, 0, 0] := by kernel_rfl
theorem made_s4 : (madeCells (Value.string ⟨#[]⟩).cells (4 * 1)).toList = sv [[], [], [], []] := by kernel_rfl
set_option maxRecDepth 100000 in
set_option maxHeartbeats 12800000 in
theorem blobKeeps_walk (w : World) (v : Value) (ol : List OpM) (h : OpR w maxLen v ol) (v2 : Value) (cs : List Int) (hc : Rds w v2 (iv cs)) (hci : Ints cs) (hcl : cs.length ≤ 140737488351232) :
    Calls Try.prog 4 #[v, v2] w fun e w' => e = .returned (.bool true) ∧ Below w.heap.size w w' := by
  have mixed : Try.prog.follows .mixedOrders = true := by kernel_rfl
  obtain ⟨i0, hi0, hz0, hz1, hz2⟩ := info_parts Try.info_str
  obtain ⟨j0, hj0, jz0, jz1, jz2⟩ := info_parts Try.info_int
  have HOK : Hid (∀ o ∈ ol, o.Ok w maxLen) := h.ok
  obtain ⟨va, vc, rfl, hvc1, hvc2, hcs⟩ := h.ex
  have HCS : Hid (0 < ol.length → ∃ b off, va = some ⟨b, off, none⟩ ∧ ∀ i (hi : i < ol.length) c u, (ol[i]).cs[c]? = some u → w.cell? ⟨b, off + (i * 4 + c), none⟩ = some u) := hcs
  obtain ⟨n1, hn1⟩ : ∃ n, n = ol.length := ⟨_, rfl⟩
  have HN1 : Hid (n1 = ol.length) := hn1
  rw [← hn1] at hvc1
  rw [← hn1]
  obtain ⟨ca, cc, rfl⟩ : ∃ a c, v2 = .slice a cs.length c := by
    obtain ⟨a, c, e, _⟩ := hc
    rw [iv_length] at e
    exact ⟨_, _, e⟩
  obtain ⟨-, hcc1, hcc2, hccs⟩ := hc.cells
  rw [iv_length] at hcc1 hccs
  have HCC : Hid (0 < cs.length → ∃ b off, ca = some ⟨b, off, none⟩ ∧ ∀ i u, (iv cs)[i]? = some u → w.cell? ⟨b, off + i, none⟩ = some u) := hccs
  have HCI : Hid (Ints cs) := hci
  obtain ⟨n2, hn2⟩ : ∃ n, n = cs.length := ⟨_, rfl⟩
  have HN2 : Hid (n2 = cs.length) := hn2
  rw [← hn2] at hcc1 hcl
  rw [← hn2]
  unfold maxLen at hvc2 hcc2
  clear h hcs hn1 hc hci hccs hn2
  go_enter Try.func4, Try.ntmps4
  go_wp2_with fail
  refine (awake_any w).mono ?_
  rintro e w1 ⟨rfl, b1⟩
  have HB1 : Hid (Below w.heap.size w w1) := b1
  clear b1
  go_wp2_with fail
  refine (new_fr w1).mono ?_
  rintro e w2 ⟨rfl, d2, b2⟩
  have kO := open_ls w w2 w1.heap.size (HB1.out.trans (b2.mono HB1.out.size)) d2 HB1.out.size
  obtain ⟨d, hd⟩ : ∃ d, d = w1.heap.size := ⟨_, rfl⟩
  rw [← hd] at kO
  rw [← hd]
  clear d2 b2 hd HB1
  go_wp2_with fail
  refine kO.mono ?_
  rintro e w3 ⟨p0, rfl, h3⟩
  have H3 : Hid (LS w w3 p0 d (fun i => i = d) 0 st0) := h3
  have hs3 : w.heap.size ≤ w3.heap.size := h3.bel.size
  clear kO h3
  go_wp2_with (first | (at_make; refine wpList_make_full _ rfl _ _ 41 rfl w3.heap.size 3 j0 (.int .i64 0) 1 Try.underlying41 hj0 jz0 jz1 .i64 .i64 _ _ 4 rfl rfl (by omega) (by omega) (by rw [jz2]; omega) (by unfold maxLen; omega) (Nat.le_refl _) ?_; intro w4 o4 g4; rw [made_i4] at o4; have HO4 : Hid (w4.ownsRow w3.heap.size 3 1 (.slice (some ⟨w3.heap.size, 0, none⟩) 4 4) 4 (iv [0, 0, 0, 0])) := o4; have HG4 : Hid (w3.grownBy w4 none) := g4; clear o4 g4) | (at_make; refine wpList_make_full _ rfl _ _ 42 rfl w4.heap.size 9 i0 (.string ⟨#[]⟩) 1 Try.underlying42 hi0 hz0 hz1 .i64 .i64 _ _ 4 rfl rfl (by omega) (by omega) (by rw [hz2]; omega) (by unfold maxLen; omega) (Nat.le_refl _) ?_; intro w5 o5 g5; rw [made_s4] at o5; have HO5 : Hid (w5.ownsRow w4.heap.size 9 1 (.slice (some ⟨w4.heap.size, 0, none⟩) 4 4) 4 (sv [[], [], [], []])) := o5; have HG5 : Hid (w4.grownBy w5 none) := g5; clear o5 g5))
  have HB4 : Hid (RowKit.Below w3.heap.size w3 w4) := ⟨HG4.out.os, HG4.out.tape, HG4.out.output, HG4.out.size, fun i hi => HG4.out.block i hi (by simp)⟩
  have HB5 : Hid (RowKit.Below w4.heap.size w4 w5) := ⟨HG5.out.os, HG5.out.tape, HG5.out.output, HG5.out.size, fun i hi => HG5.out.block i hi (by simp)⟩
  have hsz4 : w3.heap.size < w4.heap.size := (own_lt HO4.out _ rfl).2
  have HK0 : Hid (Kb w w5 p0 d (fun i => i = d) 0 (bS [] 0 false false 0 0) w3.heap.size 4 w4.heap.size 4 [0, 0, 0, 0] [[], [], [], []]) := by
    have l1 := (own_lt HO4.out _ rfl).2
    have l2 := H3.out.dk.lt d rfl
    have l3 := H3.out.plt
    refine ⟨(H3.out.below HB4.out).below HB5.out, row_block (own_mono HO4.out hs3) fun r hr => HB5.out.block r (own_lt HO4.out r hr).2, own_mono HO5.out (by omega), ⟨fun hf => ?_, by omega⟩, ⟨fun hf => ?_, by omega⟩, by omega⟩
    · have hf' : w3.heap.size = d := hf
      omega
    · have hf' : w4.heap.size = d := hf
      omega
  obtain ⟨gx, hgx⟩ : ∃ g, g = w3.heap.size := ⟨_, rfl⟩
  obtain ⟨gy, hgy⟩ : ∃ g, g = w4.heap.size := ⟨_, rfl⟩
  rw [← hgx, ← hgy] at HK0
  rw [← hgx, ← hgy]
  clear hgx hgy HB4 HB5 HO4 HO5 HG4 HG5 hs3 hsz4 H3
  go_wp2_with fail
  go_loopg [7, 11, 12, 13, 14, 15, 16, 17, 18, 19, 20] 80 (fun kx v7 v11 v12 _ _ _ _ _ _ _ _ wr => ∃ (i at_ N n p : Nat) (st : Bool) (op part : Int) (F : Nat → Prop) (M : List (Str × Str)) (Th : List Int) (By : List Str), v7 = .pointer (some ⟨p, 0, none⟩) ∧ v11 = .int .i64 (at_ : Int) ∧ v12 = .int .i64 (i : Int) ∧ i ≤ 80 ∧ 80 - i ≤ kx ∧ at_ ≤ i ∧ N ≤ 1048584 * i ∧ n ≤ 4 * i ∧ Hid (KI M Th By) ∧ Hid (Kb w wr p d F N (bS M n false st op part) gx 4 gy 4 Th By))
  case atStart => exact ⟨0, 0, 0, 0, p0, _, _, _, _, _, _, _, rfl, rfl, rfl, by omega, Nat.le_refl _, Nat.le_refl _, by omega, by omega, KI.zero, HK0⟩
  case round =>
    obtain ⟨i, at_, N, n, p, st, op, part, F, M, Th, By, rfl, rfl, rfl, hi, hkx, hat, hN, hnn, HI, HK⟩ := hrel
    clear HK0
    rename World => wo
    by_cases hgo : i < n1 ∧ i < 80
    · obtain ⟨hin1, hi80⟩ := hgo
      have hzi1 : (i : Int) < (n1 : Int) := by omega
      have hzi2 : (i : Int) < 80 := by omega
      have kOf := off_any wo d N F (bS M n false st op part) HK.out.ls.dk
      have HW1 : Hid (wrap64 ((i : Int) + 1) = (i : Int) + 1) := by apply hide; rw [← IntWalk.i64_left, IntKind.wrap_i64]; omega
      have HWA : Hid (wrap64 ((at_ : Int) + 1) = (at_ : Int) + 1) := by apply hide; rw [← IntWalk.i64_left, IntKind.wrap_i64]; omega
      go_upto_region 14 with fail
      go_cut [61] (fun v61 wA => v61 = .bool (decide (at_ < n2 ∧ i % 3 = 0)) ∧ wA = wo)
      case first =>
        as_aux_lemma =>
          by_cases hq1 : at_ < n2
          · have hq1z : (at_ : Int) < (n2 : Int) := by omega
            by_cases hq2 : i % 3 = 0
            · have hq2z : (i : Int) % 3 = 0 := by omega
              go_wp2_with fail
              refine kOf.mono ?_
              rintro e wq ⟨rfl, rfl⟩
              clear kOf
              go_wp2_with fail
              go_meet
              case rel => exact ⟨by rw [decide_eq_true ⟨hq1, hq2⟩], rfl⟩
            · have hq2z : ¬ (i : Int) % 3 = 0 := by omega
              go_wp2_with fail
              refine kOf.mono ?_
              rintro e wq ⟨rfl, rfl⟩
              clear kOf
              go_wp2_with fail
              go_meet
              case rel => exact ⟨by rw [decide_eq_false fun h => hq2 h.2]; first | rfl | simp [hq2z], rfl⟩
          · have hq1z : ¬ (at_ : Int) < (n2 : Int) := by omega
            go_wp2_with fail
            refine kOf.mono ?_
            rintro e wq ⟨rfl, rfl⟩
            clear kOf
            go_wp2_with fail
            go_meet
            case rel => exact ⟨by rw [decide_eq_false fun h => hq1 h.1], rfl⟩
      case rest =>
        obtain ⟨rfl, rfl⟩ := hcut
        rename World => wq
        clear kOf
        obtain ⟨B1, hB1⟩ : ∃ b, b = decide (at_ < n2 ∧ i % 3 = 0) := ⟨_, rfl⟩
        have HB1 : Hid (B1 = decide (at_ < n2 ∧ i % 3 = 0)) := hB1
        rw [← hB1]
        clear hB1
        go_upto_if 61 with fail
        go_cut [11] (fun v11 wA => ∃ (a' : Nat) (st' : Bool) (op' part' : Int), v11 = .int .i64 (a' : Int) ∧ a' ≤ i + 1 ∧ Hid (Kb w wA p d F N (bS M n false st' op' part') gx 4 gy 4 Th By))
        case first =>
          as_aux_lemma =>
            cases B1
            case true =>
              obtain ⟨hq1, hq2⟩ := of_decide_eq_true HB1.out.symm
              have hq1z : (at_ : Int) < (n2 : Int) := by omega
              obtain ⟨cb, co, rfl, hcc⟩ := HCC.out (by have := HN2.out; omega)
              have c0w := hcc at_ _ (iv_get cs at_ (by have := HN2.out; omega))
              have c0 : wq.cell? ⟨cb, co + at_, none⟩ = some (.int .i64 (cs.getD at_ 0)) := by rw [HK.out.ls.bel.cell (World.block_lt_of_cell? _ _ c0w), c0w]
              obtain ⟨z1, z2⟩ := HCI.out.at at_ (by have := HN2.out; omega)
              obtain ⟨z, hz⟩ : ∃ z, z = cs.getD at_ 0 := ⟨_, rfl⟩
              rw [← hz] at c0 z1 z2
              have kOps := fun (W : World) (hb : RowKit.Below wq.heap.size wq W) => ops_any W d N F (bS M n false st op part) (HK.out.ls.dk.below hb)
              have kAb := fun (W : World) => abs_any W z z1 z2
              have hab := absN_lt z1 z2
              obtain ⟨A, hA⟩ : ∃ A, A = absN z := ⟨_, rfl⟩
              rw [← hA] at kAb hab
              have kC := fun (W : World) (hb : RowKit.Below wq.heap.size wq W) (a b : Int) => cutAt_any W d N F (bS M n false st op part) a b (HK.out.ls.dk.below hb)
              clear hz hA hcc c0w
              have HWQ : Hid (at_ < n2) := hq1
              clear hq1 hq2
              go_wp2_with fail
              have hwq : IntKind.i64.wrap ((n : Int) + (A : Int) % 9) = (n : Int) + (A : Int) % 9 := by rw [IntKind.wrap_i64]; omega
              have hwq2 : wrap64 ((n : Int) + (A : Int) % 9) = (n : Int) + (A : Int) % 9 := by rw [← IntWalk.i64_left]; exact hwq
              have zc := fun nq os => cell_gro c0 nq os
              have zO : ∀ nq os, Calls Try.prog 17 #[.pointer (some ⟨d, 0, none⟩)] (Go.Sort.grow (wq.drewN nq) os) fun e w' => e = .returned (.int .i64 (n : Int)) ∧ ∃ q os', w' = Go.Sort.grow ((Go.Sort.grow (wq.drewN nq) os).drewN q) os' := fun nq os => (kOps _ (below_gr wq nq os)).mono fun _ _ ⟨he, hw⟩ => ⟨he, 0, #[], by rw [hw, grow_empty]; rfl⟩
              have zA : ∀ nq os, Calls Try.prog 18 #[.int .i64 z] (Go.Sort.grow (wq.drewN nq) os) fun e w' => e = .returned (.int .i64 (A : Int)) ∧ ∃ q os', w' = Go.Sort.grow ((Go.Sort.grow (wq.drewN nq) os).drewN q) os' := fun nq os => (kAb _).mono fun _ _ ⟨he, hw⟩ => ⟨he, 0, #[], by rw [hw, grow_empty]; rfl⟩
              clear kOps kAb c0
              refine wp_region_first_grown 14 1 (by assumption) rfl (by kernel_rfl) (by kernel_rfl) (by kernel_rfl) (by kernel_rfl) ?_
              simp only [List.take_succ_cons, List.take_zero]
              repeat (go_big_quiet_step (first | (go_at_call 17; with_reducible refine Calls.grown_of (zO _ _)) | (go_at_call 18; with_reducible refine Calls.grown_of (zA _ _))))
              refine wpQuiet_nil ?_
              intro V hw'
              obtain ⟨⟨nq, osq⟩, hw''⟩ := hw'
              have HBV : Hid (RowKit.Below wq.heap.size wq V) := by apply hide; rw [hw'']; exact below_gr wq nq osq
              clear hw'' zO zA zc
              refine wpAny_ready (rs := [14]) (by kernel_rfl) (by simp) ?_
              refine AllReady.cons rfl (fun K hK => ?_) AllReady.nil
              go_simp
              refine (kC V HBV.out _ _).mono ?_
              rintro e w5 ⟨rfl, d5, f5⟩
              have HK5 : Hid (Kb w w5 p d F N (bS M n false true ((n : Int) + (A : Int) % 9) z) gx 4 gy 4 Th By) := (HK.out.below HBV.out).dk d5 f5
              clear kC d5 f5
              go_simp
              refine hK _ _ ?_
              clear hK K
              refine wpAny_done (by kernel_rfl) ?_ _
              go_wp2_with fail
              go_meet
              case rel => exact ⟨at_ + 1, true, _, _, by first | (rw [HWA.out]; rfl) | rfl, Nat.succ_le_succ hat, HK5⟩
            case false =>
              go_wp2_with fail
              go_meet
              case rel => exact ⟨at_, st, op, part, rfl, Nat.le_succ_of_le hat, HK⟩
        case rest =>
          obtain ⟨a1, st1, op1, part1, rfl, ha1, HK1⟩ := hcut
          rename World => w5
          have hil : i < ol.length := by have := HN1.out; omega
          obtain ⟨vb, vo, rfl, hcs⟩ := HCS.out (by omega)
          have hcell : ∀ c u, (ol[i]).cs[c]? = some u → w5.cell? ⟨vb, vo + i * 4 + c, none⟩ = some u := fun c u hu => by
            have h0 := hcs i hil c u hu
            rw [Nat.add_assoc]
            exact (HK1.out.ls.bel.cell (World.block_lt_of_cell? _ _ h0)).trans h0
          have hok := HOK.out _ (List.getElem_mem hil)
          obtain ⟨o, ho⟩ : ∃ o, o = ol[i] := ⟨_, rfl⟩
          rw [← ho] at hok hcell
          have c0 := hcell 0 _ rfl
          have c1 := hcell 1 _ rfl
          have c2 := hcell 2 _ rfl
          have c3 := hcell 3 _ rfl
          simp only [Nat.add_zero] at c0
          clear hcs hcell ho hil HB1 HK HCC HCI HWA hat
          obtain ⟨oK, oA, ou, obs, oM⟩ := o
          simp only at c0 c1 c2 c3
          obtain ⟨ua, uc, hue, hu1, hu2, -⟩ := hok.r
          simp only at hue
          subst hue
          have HRO : Hid (Reads w (.slice ua obs.length uc) obs) := hok.r
          have hk1 := hok.k1
          have hk2 := hok.k2
          have hm1 := hok.n1
          have hm2 := hok.n2
          simp only at hk1 hk2 hm1 hm2
          have kAbN := fun (W : World) => abs_any W oM hm1 hm2
          have kAbK := fun (W : World) => abs_any W oK hk1 hk2
          have habN := absN_lt hm1 hm2
          have habK := absN_lt hk1 hk2
          obtain ⟨AN, hAN⟩ : ∃ A, A = absN oM := ⟨_, rfl⟩
          obtain ⟨AK, hAK⟩ : ∃ A, A = absN oK := ⟨_, rfl⟩
          rw [← hAN] at kAbN habN
          rw [← hAK] at kAbK habK
          obtain ⟨L, hL⟩ : ∃ L : Nat, min (obs.length : Int) 1000 = (L : Int) ∧ L ≤ obs.length ∧ L ≤ 1000 := ⟨min obs.length 1000, by omega, by omega, by omega⟩
          obtain ⟨hL, hL1, hL2⟩ := hL
          have hL3 : (0 : Int) ≤ (L : Int) := by omega
          have hL4 : (L : Int) ≤ (uc : Int) := by simp only at hu1; omega
          have HLO : Hid (L ≤ obs.length ∧ L ≤ 1000) := ⟨hL1, hL2⟩
          unfold maxLen at hu2
          simp only at hu1 hu2
          clear hAN hAK hok hk1 hk2 hm1 hm2
          go_wp2_with (first | (refine wpList_store_new rfl 35 (.tmp 13) (.tmp 82) rfl w5 #[.int .i64 0, .string ⟨#[]⟩, .slice none 0 0, .int .i64 0] #[.int .i64 oK, .string ⟨oA.toArray⟩, .slice ua obs.length uc, .int .i64 oM] rfl rfl rfl (by kernel_rfl) rfl rfl ?_))
          have HC0 : Hid (Kc w (w5.alloc (.cells #[.int .i64 oK, .string ⟨oA.toArray⟩, .slice ua L uc, .int .i64 oM] 35)) p d F N (bS M n false st1 op1 part1) gx 4 gy 4 Th By w5.heap.size #[.int .i64 oK, .string ⟨oA.toArray⟩, .slice ua L uc, .int .i64 oM]) := HK1.out.box _
          obtain ⟨X, hX⟩ : ∃ X, X = w5.alloc (.cells #[.int .i64 oK, .string ⟨oA.toArray⟩, .slice ua L uc, .int .i64 oM] 35) := ⟨_, rfl⟩
          obtain ⟨xb, hxb⟩ : ∃ xb, xb = w5.heap.size := ⟨_, rfl⟩
          rw [← hX, ← hxb] at HC0
          rw [← hX, ← hxb]
          obtain ⟨l, hl⟩ : ∃ l, l = obs.take L := ⟨_, rfl⟩
          have HRL : Hid (Reads w (.slice ua L uc) l) := by rw [hl]; exact HRO.out.cut L HLO.out.1
          have hll : l.length = L := by rw [hl, List.length_take]; omega
          have HL : Hid (l.length = L ∧ l.length ≤ 1000) := ⟨hll, by omega⟩
          obtain ⟨k, hk⟩ : ∃ k : Nat, (AN : Int) % 4 = (k : Int) := ⟨AN % 4, by omega⟩
          have hk4 : k < 4 := by omega
          clear hX hxb hl hll HK1 HRO HLO c0 c1 c2 c3 hL hL1 hL2 hL3 hL4
          have x0 := BxA.cell HC0.out.o 0 _ rfl
          have x2 := BxA.cell HC0.out.o 2 _ rfl
          have x3 := BxA.cell HC0.out.o 3 _ rfl
          refine (kAbN _).mono ?_
          rintro e wz ⟨rfl, rfl⟩
          go_wp2_with fail
          refine (kAbK _).mono ?_
          rintro e wz2 ⟨rfl, rfl⟩
          clear kAbN kAbK
          go_upto_if 100 with fail
          obtain ⟨pb, hpb⟩ : ∃ b, b = decide (0 < (AK : Int) % 5) := ⟨_, rfl⟩
          rw [← hpb]
          have HCl : Hid (∀ w', RowKit.Below w.heap.size w w' → Reads w' (.slice ua L uc) l) := fun w' hb => HRL.out.below hb
          clear hpb hk habN habK x0 x3 hu1 hu2 HRL
          go_cut [15] (fun v15 wA => ∃ (R : Nat × St) (F' : Nat → Prop), v15 = .int .i64 (R.1 : Int) ∧ Hid (KR M Th By n st1 op1 part1 k l pb R) ∧ Hid (Kc w wA p d F' (N + 1048584) R.2 gx 4 gy 4 Th By xb #[.int .i64 oK, .string ⟨oA.toArray⟩, .slice ua L uc, .int .i64 oM]))
          case first =>
            as_aux_lemma =>
              cases pb
              case true =>
                have hnm := (nmS_facts k hk4).2.1
                have zN := fun nq os => name_gr wz2 nq os k hk4
                have z2 := fun nq os => cell_gro x2 nq os
                have kP := fun (W : World) (hb : RowKit.Below wz2.heap.size wz2 W) => put_ls w W p d N F (bS M n false st1 op1 part1) (nmS k) l (.slice ua L uc) (HC0.out.below hb).k.ls (Nat.le_trans hnm (by decide)) (fun w' hf => (HCl.out W (HC0.out.below hb).k.ls.bel).fra (HCl.out w (RowKit.Below.refl _ _)).blk HC0.out.k.ls.F0 hf) (by omega) (by show n < 999990; omega)
                have HKR : Hid (KR M Th By n st1 op1 part1 k l true (bput (bS M n false st1 op1 part1) (nmS k) l)) := kr_put HI.out n st1 op1 part1 k l hk4 HL.out.2
                obtain ⟨R, hR⟩ : ∃ R, R = bput (bS M n false st1 op1 part1) (nmS k) l := ⟨_, rfl⟩
                rw [← hR] at kP HKR
                obtain ⟨q, hq⟩ : ∃ q, q = nmS k := ⟨_, rfl⟩
                rw [← hq] at kP zN
                clear hR hq hnm x2
                go_wp2_with fail
                refine wp_region_first_grown 5 2 (by assumption) rfl (by kernel_rfl) (by kernel_rfl) (by kernel_rfl) (by kernel_rfl) ?_
                simp only [List.take_succ_cons, List.take_zero]
                repeat (go_big_quiet_step (first | (go_at_call 20; with_reducible refine Calls.grown_of (zN _ _))))
                refine wpQuiet_nil ?_
                intro V hw'
                obtain ⟨⟨nq, osq⟩, hw''⟩ := hw'
                have HBV : Hid (RowKit.Below wz2.heap.size wz2 V) := by apply hide; rw [hw'']; exact below_gr wz2 nq osq
                clear hw'' zN z2
                refine wpAny_ready (rs := [5]) (by kernel_rfl) (by simp) ?_
                refine AllReady.cons rfl (fun K hK => ?_) AllReady.nil
                go_simp
                refine (kP V HBV.out).mono ?_
                rintro e w7 ⟨rfl, k7⟩
                obtain ⟨F7, h7⟩ := (HC0.out.below HBV.out).mv k7
                have HC7 : Hid _ := h7
                clear kP k7 h7
                go_simp
                refine hK _ _ ?_
                clear hK K
                refine wpAny_ready (rs := [6]) (by kernel_rfl) (by simp) ?_
                refine AllReady.cons rfl (fun K hK => ?_) AllReady.nil
                go_simp
                refine hK _ _ ?_
                clear hK K
                refine wpAny_done (by kernel_rfl) ?_ _
                go_wp2_with fail
                go_meet
                case rel => exact ⟨R, F7, rfl, HKR, HC7⟩
              case false =>
                have hnm := (nmS_facts k hk4).2.1
                have kN := name_any wz2 k hk4
                have kP := fun (W : World) (hb : RowKit.Below wz2.heap.size wz2 W) => del_ls w W p d N F (bS M n false st1 op1 part1) (nmS k) (HC0.out.below hb).k.ls (Nat.le_trans hnm (by decide)) (by show n < 1000000; omega)
                have HKR : Hid (KR M Th By n st1 op1 part1 k l false (bdel (bS M n false st1 op1 part1) (nmS k))) := kr_del HI.out n st1 op1 part1 k l hk4
                obtain ⟨R, hR⟩ : ∃ R, R = bdel (bS M n false st1 op1 part1) (nmS k) := ⟨_, rfl⟩
                rw [← hR] at kP HKR
                obtain ⟨q, hq⟩ : ∃ q, q = nmS k := ⟨_, rfl⟩
                rw [← hq] at kP kN
                clear hR hq hnm x2
                go_wp2_with fail
                refine kN.mono ?_
                rintro e V ⟨rfl, bV⟩
                have HBV : Hid (RowKit.Below wz2.heap.size wz2 V) := bV
                have kP2 := kP V bV
                clear kN bV kP
                go_wp2_with fail
                refine kP2.mono ?_
                rintro e w7 ⟨rfl, k7⟩
                obtain ⟨F7, h7⟩ := (HC0.out.below HBV.out).mv k7
                have HC7 : Hid (Kc w w7 p d F7 (N + 1048584) R.2 gx 4 gy 4 Th By xb #[.int .i64 oK, .string ⟨oA.toArray⟩, .slice ua L uc, .int .i64 oM]) := h7.more (Nat.le_add_right _ _)
                clear kP2 k7 h7
                go_wp2_with fail
                go_meet
                case rel => exact ⟨R, F7, rfl, HKR, HC7⟩
          case rest =>
            rename World => w6
            obtain ⟨R, F6, rfl, HKR, HC6⟩ := hcut
            clear HC0 x2
            have zx := fun nq os => cell_gro (HC6.out.k.cells k hk4).1 nq os
            have zy := fun nq os => cell_gro (HC6.out.k.cells k hk4).2.1 nq os
            have zo := fun nq os => cell_gro (BxA.cell HC6.out.o 2 _ rfl) nq os
            have zl := fun nq os => conv_string (Go.Sort.grow (w6.drewN nq) os) _ _ ((HCl.out w6 HC6.out.k.ls.bel).below (below_gr w6 nq os))
            obtain ⟨tk, htk⟩ : ∃ t, t = Th.getD k 0 := ⟨_, rfl⟩
            obtain ⟨yk, hyk⟩ : ∃ t, t = By.getD k [] := ⟨_, rfl⟩
            rw [← htk] at zx
            rw [← hyk] at zy
            have HTK : Hid (tk = Th.getD k 0) := htk
            have HYK : Hid (yk = By.getD k []) := hyk
            clear htk hyk
            cases HKR.out with
            | again h e =>
              as_aux_lemma =>
                rw [← HTK.out] at h
                rw [← HYK.out] at e
                subst h
                subst e
                have hbq : (yk == yk) = true := by simp
                go_wp2_with fail
                refine wp_region_quiet_grown (by assumption) (by kernel_rfl) ?_
                repeat (go_big_quiet_step (fail))
                refine wpQuiet_nil ?_
                intro T hw'
                obtain ⟨⟨nq, osq⟩, hw''⟩ := hw'
                have HBT : Hid (RowKit.Below w6.heap.size w6 T) := by apply hide; rw [hw'']; exact below_gr w6 nq osq
                have HCT : Hid (Kc w T p d F6 (N + 1048584) (bS M n false st1 op1 part1) gx 4 gy 4 Th By xb #[.int .i64 oK, .string ⟨oA.toArray⟩, .slice ua L uc, .int .i64 oM]) := HC6.out.below HBT.out
                have cx := (HCT.out.k.cells k hk4).1
                have cy := (HCT.out.k.cells k hk4).2.1
                have fx := (HCT.out.k.cells k hk4).2.2.1
                have fy := (HCT.out.k.cells k hk4).2.2.2
                have xo := BxA.cell HCT.out.o 2 _ rfl
                have xl := conv_string T _ _ (HCl.out T HCT.out.k.ls.bel)
                rw [← HTK.out] at cx
                rw [← HYK.out] at cy
                clear hw'' zx zy zo zl
                have HS1 : Hid _ := HCT.out.setx k 1
                have s1 : (T.setCell ⟨gx, k, none⟩ (.int .i64 1)).cell? ⟨xb, 2, none⟩ = some (.slice ua L uc) := BxA.cell HS1.out.o 2 _ rfl
                have s2 := conv_string (T.setCell ⟨gx, k, none⟩ (.int .i64 1)) _ _ (HCl.out _ HS1.out.k.ls.bel)
                have s3 := (HS1.out.k.cells k hk4).2.1
                have s4 := (HS1.out.k.cells k hk4).2.2.2
                go_wp2_with fail
                have HKE : Hid (Kc w ((T.setCell ⟨gx, k, none⟩ (.int .i64 1)).setCell ⟨gy, k, none⟩ (.string ⟨yk.toArray⟩)) p d F6 (N + 1048584) (bS M n false st1 op1 part1) gx 4 gy 4 Th By xb #[.int .i64 oK, .string ⟨oA.toArray⟩, .slice ua L uc, .int .i64 oM]) := by
                  apply hide
                  have := (HCT.out.setx k 1).sety k yk
                  rw [set_same (by rw [HI.out.tl]; exact hk4) HTK.out.symm, set_sameS (by rw [HI.out.yl]; exact hk4) HYK.out.symm] at this
                  exact this
                go_roundg (80 - (i + 1))
                case measure => exact Nat.lt_of_lt_of_le (Nat.sub_lt_sub_left hi80 (Nat.lt_succ_self i)) hkx
                case rel => exact ⟨i + 1, a1, N + 1048584, n, p, st1, op1, part1, _, M, Th, By, rfl, rfl, by first | (rw [HW1.out]; rfl) | rfl, hi80, Nat.le_refl _, ha1, by omega, by omega, HI, HKE.out.k⟩
            | other h e =>
              as_aux_lemma =>
                rw [← HTK.out] at h
                rw [← HYK.out] at e
                subst h
                have hbq : (yk == l) = false := by simpa using e
                go_wp2_with fail
                refine wp_region_quiet_grown (by assumption) (by kernel_rfl) ?_
                repeat (go_big_quiet_step (fail))
                refine wpQuiet_nil ?_
                intro T hw'
                obtain ⟨⟨nq, osq⟩, hw''⟩ := hw'
                have HBT : Hid (RowKit.Below w6.heap.size w6 T) := by apply hide; rw [hw'']; exact below_gr w6 nq osq
                have HCT : Hid (Kc w T p d F6 (N + 1048584) (bS M n false st1 op1 part1) gx 4 gy 4 Th By xb #[.int .i64 oK, .string ⟨oA.toArray⟩, .slice ua L uc, .int .i64 oM]) := HC6.out.below HBT.out
                have cx := (HCT.out.k.cells k hk4).1
                have cy := (HCT.out.k.cells k hk4).2.1
                have fx := (HCT.out.k.cells k hk4).2.2.1
                have fy := (HCT.out.k.cells k hk4).2.2.2
                have xo := BxA.cell HCT.out.o 2 _ rfl
                have xl := conv_string T _ _ (HCl.out T HCT.out.k.ls.bel)
                rw [← HTK.out] at cx
                rw [← HYK.out] at cy
                clear hw'' zx zy zo zl
                go_wp2_with fail
                go_roundg (80 - (i + 1))
                case measure => exact Nat.lt_of_lt_of_le (Nat.sub_lt_sub_left hi80 (Nat.lt_succ_self i)) hkx
                case rel => exact ⟨i + 1, a1, N + 1048584, n, p, st1, op1, part1, _, M, Th, By, rfl, rfl, by first | (rw [HW1.out]; rfl) | rfl, hi80, Nat.le_refl _, ha1, by omega, by omega, HI, HCT.out.k⟩
            | new h =>
              as_aux_lemma =>
                rw [← HTK.out] at h
                subst h
                go_wp2_with fail
                refine wp_region_quiet_grown (by assumption) (by kernel_rfl) ?_
                repeat (go_big_quiet_step (fail))
                refine wpQuiet_nil ?_
                intro T hw'
                obtain ⟨⟨nq, osq⟩, hw''⟩ := hw'
                have HBT : Hid (RowKit.Below w6.heap.size w6 T) := by apply hide; rw [hw'']; exact below_gr w6 nq osq
                have HCT : Hid (Kc w T p d F6 (N + 1048584) (bS (M ++ [(nmS k, l)]) (n + 3) false st1 op1 part1) gx 4 gy 4 Th By xb #[.int .i64 oK, .string ⟨oA.toArray⟩, .slice ua L uc, .int .i64 oM]) := HC6.out.below HBT.out
                have cx := (HCT.out.k.cells k hk4).1
                have cy := (HCT.out.k.cells k hk4).2.1
                have fx := (HCT.out.k.cells k hk4).2.2.1
                have fy := (HCT.out.k.cells k hk4).2.2.2
                have xo := BxA.cell HCT.out.o 2 _ rfl
                have xl := conv_string T _ _ (HCl.out T HCT.out.k.ls.bel)
                rw [← HTK.out] at cx
                rw [← HYK.out] at cy
                clear hw'' zx zy zo zl
                have HS1 : Hid _ := HCT.out.setx k 1
                have s1 : (T.setCell ⟨gx, k, none⟩ (.int .i64 1)).cell? ⟨xb, 2, none⟩ = some (.slice ua L uc) := BxA.cell HS1.out.o 2 _ rfl
                have s2 := conv_string (T.setCell ⟨gx, k, none⟩ (.int .i64 1)) _ _ (HCl.out _ HS1.out.k.ls.bel)
                have s3 := (HS1.out.k.cells k hk4).2.1
                have s4 := (HS1.out.k.cells k hk4).2.2.2
                go_wp2_with fail
                have HKE : Hid (Kc w ((T.setCell ⟨gx, k, none⟩ (.int .i64 1)).setCell ⟨gy, k, none⟩ (.string ⟨l.toArray⟩)) p d F6 (N + 1048584) (bS (M ++ [(nmS k, l)]) (n + 3) false st1 op1 part1) gx 4 gy 4 (Th.set k 1) (By.set k l) xb #[.int .i64 oK, .string ⟨oA.toArray⟩, .slice ua L uc, .int .i64 oM]) := (HCT.out.setx k 1).sety k l
                have HI2 : Hid (KI (M ++ [(nmS k, l)]) (Th.set k 1) (By.set k l)) := HI.out.put hk4 HTK.out.symm (by have := HL.out.2; omega)
                go_roundg (80 - (i + 1))
                case measure => exact Nat.lt_of_lt_of_le (Nat.sub_lt_sub_left hi80 (Nat.lt_succ_self i)) hkx
                case rel => exact ⟨i + 1, a1, N + 1048584, n + 3, p, st1, op1, part1, _, _, _, _, rfl, rfl, by first | (rw [HW1.out]; rfl) | rfl, hi80, Nat.le_refl _, ha1, by omega, by omega, HI2, HKE.out.k⟩
            | none h =>
              as_aux_lemma =>
                rw [← HTK.out] at h
                subst h
                go_wp2_with fail
                refine wp_region_quiet_grown (by assumption) (by kernel_rfl) ?_
                repeat (go_big_quiet_step (fail))
                refine wpQuiet_nil ?_
                intro T hw'
                obtain ⟨⟨nq, osq⟩, hw''⟩ := hw'
                have HBT : Hid (RowKit.Below w6.heap.size w6 T) := by apply hide; rw [hw'']; exact below_gr w6 nq osq
                have HCT : Hid (Kc w T p d F6 (N + 1048584) (bS M n false st1 op1 part1) gx 4 gy 4 Th By xb #[.int .i64 oK, .string ⟨oA.toArray⟩, .slice ua L uc, .int .i64 oM]) := HC6.out.below HBT.out
                have cx := (HCT.out.k.cells k hk4).1
                have cy := (HCT.out.k.cells k hk4).2.1
                have fx := (HCT.out.k.cells k hk4).2.2.1
                have fy := (HCT.out.k.cells k hk4).2.2.2
                have xo := BxA.cell HCT.out.o 2 _ rfl
                have xl := conv_string T _ _ (HCl.out T HCT.out.k.ls.bel)
                rw [← HTK.out] at cx
                rw [← HYK.out] at cy
                clear hw'' zx zy zo zl
                go_wp2_with fail
                go_roundg (80 - (i + 1))
                case measure => exact Nat.lt_of_lt_of_le (Nat.sub_lt_sub_left hi80 (Nat.lt_succ_self i)) hkx
                case rel => exact ⟨i + 1, a1, N + 1048584, n, p, st1, op1, part1, _, M, Th, By, rfl, rfl, by first | (rw [HW1.out]; rfl) | rfl, hi80, Nat.le_refl _, ha1, by omega, by omega, HI, HCT.out.k⟩
            | gone h =>
              as_aux_lemma =>
                rw [← HTK.out] at h
                subst h
                go_wp2_with fail
                refine wp_region_quiet_grown (by assumption) (by kernel_rfl) ?_
                repeat (go_big_quiet_step (fail))
                refine wpQuiet_nil ?_
                intro T hw'
                obtain ⟨⟨nq, osq⟩, hw''⟩ := hw'
                have HBT : Hid (RowKit.Below w6.heap.size w6 T) := by apply hide; rw [hw'']; exact below_gr w6 nq osq
                have HCT : Hid (Kc w T p d F6 (N + 1048584) (bS (mDel M (nmS k)) (n + 1) false st1 op1 part1) gx 4 gy 4 Th By xb #[.int .i64 oK, .string ⟨oA.toArray⟩, .slice ua L uc, .int .i64 oM]) := HC6.out.below HBT.out
                have cx := (HCT.out.k.cells k hk4).1
                have cy := (HCT.out.k.cells k hk4).2.1
                have fx := (HCT.out.k.cells k hk4).2.2.1
                have fy := (HCT.out.k.cells k hk4).2.2.2
                have xo := BxA.cell HCT.out.o 2 _ rfl
                have xl := conv_string T _ _ (HCl.out T HCT.out.k.ls.bel)
                rw [← HTK.out] at cx
                rw [← HYK.out] at cy
                clear hw'' zx zy zo zl
                go_wp2_with fail
                have HKE : Hid (Kc w (T.setCell ⟨gx, k, none⟩ (.int .i64 0)) p d F6 (N + 1048584) (bS (mDel M (nmS k)) (n + 1) false st1 op1 part1) gx 4 gy 4 (Th.set k 0) By xb #[.int .i64 oK, .string ⟨oA.toArray⟩, .slice ua L uc, .int .i64 oM]) := HCT.out.setx k 0
                have HI2 : Hid (KI (mDel M (nmS k)) (Th.set k 0) By) := HI.out.del hk4 HTK.out.symm
                go_roundg (80 - (i + 1))
                case measure => exact Nat.lt_of_lt_of_le (Nat.sub_lt_sub_left hi80 (Nat.lt_succ_self i)) hkx
                case rel => exact ⟨i + 1, a1, N + 1048584, n + 1, p, st1, op1, part1, _, _, _, _, rfl, rfl, by first | (rw [HW1.out]; rfl) | rfl, hi80, Nat.le_refl _, ha1, by omega, by omega, HI2, HKE.out.k⟩
            | poff f j h hf hj ho =>
              as_aux_lemma =>
                rw [← HTK.out] at h
                subst h
                go_wp2_with fail
                refine wp_region_quiet_grown (by assumption) (by kernel_rfl) ?_
                repeat (go_big_quiet_step (fail))
                refine wpQuiet_nil ?_
                intro T hw'
                obtain ⟨⟨nq, osq⟩, hw''⟩ := hw'
                have HBT : Hid (RowKit.Below w6.heap.size w6 T) := by apply hide; rw [hw'']; exact below_gr w6 nq osq
                have HCT : Hid (Kc w T p d F6 (N + 1048584) (bD M f (n + j) true st1 op1 part1) gx 4 gy 4 Th By xb #[.int .i64 oK, .string ⟨oA.toArray⟩, .slice ua L uc, .int .i64 oM]) := HC6.out.below HBT.out
                have cx := (HCT.out.k.cells k hk4).1
                have cy := (HCT.out.k.cells k hk4).2.1
                have fx := (HCT.out.k.cells k hk4).2.2.1
                have fy := (HCT.out.k.cells k hk4).2.2.2
                have xo := BxA.cell HCT.out.o 2 _ rfl
                have xl := conv_string T _ _ (HCl.out T HCT.out.k.ls.bel)
                rw [← HTK.out] at cx
                rw [← HYK.out] at cy
                clear hw'' zx zy zo zl
                have kF := off_any T d (N + 1048584) F6 _ HCT.out.k.ls.dk
                have kOn := on_any T d (N + 1048584) F6 _ HCT.out.k.ls.dk
                have HOP : Hid (bopen (bD M f (n + j) false st1 op1 part1) = (0, bS M (n + j + 1) false st1 op1 part1)) := bopen_d (nmS_facts k hk4).1 hf ho
                have HGE : Hid (bget (bS M (n + j + 1) false st1 op1 part1) (nmS k) = (120, [])) := bget_out (M := M) rfl rfl (nmS_facts k hk4).1 (HI.out.no k hk4 HTK.out.symm)
                have hnm := (nmS_facts k hk4).2.1
                go_wp2_with fail
                refine wp_loop_rounds 2 ?_
                rw [rounds_succ]
                go_wp2_with fail
                refine kF.mono ?_
                rintro e wf ⟨rfl, rfl⟩
                clear kF
                go_wp2_with fail
                refine kOn.mono ?_
                rintro e w7 ⟨rfl, d7, f7⟩
                have HC7 : Hid (Kc w w7 p d F6 (N + 1048584) (bD M f (n + j) false st1 op1 part1) gx 4 gy 4 Th By xb #[.int .i64 oK, .string ⟨oA.toArray⟩, .slice ua L uc, .int .i64 oM]) := HCT.out.dk d7 f7
                have kOp := openB_any w7 d (N + 1048584) F6 (bD M f (n + j) false st1 op1 part1) HC7.out.k.ls.dk (by show n + j < 990000; omega)
                rw [HOP.out] at kOp
                clear kOn d7 f7 HCT
                go_wp2_with fail
                refine kOp.mono ?_
                intro e w8 k8
                obtain ⟨p8, rfl, h8⟩ := HC7.out.opn k8
                have HC8 : Hid (Kc w w8 p8 d F6 (N + 1048584) (bS M (n + j + 1) false st1 op1 part1) gx 4 gy 4 Th By xb #[.int .i64 oK, .string ⟨oA.toArray⟩, .slice ua L uc, .int .i64 oM]) := h8
                have kF2 := off_any w8 d (N + 1048584) F6 _ h8.k.ls.dk
                have kN := name_any w8 k hk4
                clear kOp k8 h8 HC7
                go_wp2_with fail
                rw [rounds_succ]
                go_wp2_with fail
                refine kF2.mono ?_
                rintro e wf2 ⟨rfl, rfl⟩
                clear kF2
                go_wp2_with fail
                refine kN.mono ?_
                rintro e w9 ⟨rfl, b9⟩
                have HC9 : Hid (Kc w w9 p8 d F6 (N + 1048584) (bS M (n + j + 1) false st1 op1 part1) gx 4 gy 4 Th By xb #[.int .i64 oK, .string ⟨oA.toArray⟩, .slice ua L uc, .int .i64 oM]) := HC8.out.below b9
                have kG := get_ls w w9 p8 d (N + 1048584) F6 (bS M (n + j + 1) false st1 op1 part1) (nmS k) HC9.out.k.ls (Nat.le_trans hnm (by decide)) (by omega)
                rw [HGE.out] at kG
                obtain ⟨q, hq⟩ : ∃ q, q = nmS k := ⟨_, rfl⟩
                rw [← hq] at kG
                rw [← hq]
                clear kN b9 HC8 hq
                go_wp2_with fail
                refine kG.mono ?_
                rintro e wa ⟨va9, rfl, oa, ba⟩
                have HCa : Hid (Kc w wa p8 d F6 (N + 1048584) (bS M (n + j + 1) false st1 op1 part1) gx 4 gy 4 Th By xb #[.int .i64 oK, .string ⟨oA.toArray⟩, .slice ua L uc, .int .i64 oM]) := HC9.out.below ba
                obtain ⟨za, zc, hza, -⟩ := oa.reads
                subst hza
                have ca := (HCa.out.k.cells k hk4).1
                rw [← HTK.out] at ca
                have kH := holdsL_any w wa p8 d (N + 1048584) gx 4 gy 4 (n + j + 1) st1 op1 part1 F6 M Th By HI.out HCa.out.k (by omega) (by omega) (by omega)
                clear kG oa ba HC9
                go_wp2_with fail
                refine kH.mono ?_
                rintro e wb ⟨rfl, bb⟩
                have HCb : Hid (Kc w wb p8 d F6 (N + 1048584) (bS M (n + j + 1) false st1 op1 part1) gx 4 gy 4 Th By xb #[.int .i64 oK, .string ⟨oA.toArray⟩, .slice ua L uc, .int .i64 oM]) := HCa.out.below bb
                have kL := list_any wb d (N + 1048584) F6 (bS M (n + j + 1) false st1 op1 part1) [116, 46] HCb.out.k.ls.dk
                rw [(lst_b (s := bS M (n + j + 1) false st1 op1 part1) (M := M) rfl rfl).2] at kL
                clear kH bb HCa ca
                go_wp2_with fail
                refine kL.mono ?_
                rintro e wc ⟨lv, rfl, ol9, -, bl⟩
                have HCc : Hid (Kc w wc p8 d F6 (N + 1048584) (bS M (n + j + 1) false st1 op1 part1) gx 4 gy 4 Th By xb #[.int .i64 oK, .string ⟨oA.toArray⟩, .slice ua L uc, .int .i64 oM]) := HCb.out.below bl
                obtain ⟨la, lc, hlv, -⟩ := ol9.rds
                replace hlv : lv = .slice la 0 lc := hlv
                subst hlv
                clear kL ol9 bl HCb
                go_wp2_with fail
                go_roundg (80 - (i + 1))
                case measure => exact Nat.lt_of_lt_of_le (Nat.sub_lt_sub_left hi80 (Nat.lt_succ_self i)) hkx
                case rel => exact ⟨i + 1, a1, N + 1048584, n + j + 1, p8, st1, op1, part1, _, M, Th, By, rfl, rfl, by first | (rw [HW1.out]; rfl) | rfl, hi80, Nat.le_refl _, ha1, by omega, by omega, HI, HCc.out.k⟩
            | doff h ho =>
              as_aux_lemma =>
                rw [← HTK.out] at h
                subst h
                go_wp2_with fail
                refine wp_region_quiet_grown (by assumption) (by kernel_rfl) ?_
                repeat (go_big_quiet_step (fail))
                refine wpQuiet_nil ?_
                intro T hw'
                obtain ⟨⟨nq, osq⟩, hw''⟩ := hw'
                have HBT : Hid (RowKit.Below w6.heap.size w6 T) := by apply hide; rw [hw'']; exact below_gr w6 nq osq
                have HCT : Hid (Kc w T p d F6 (N + 1048584) (bS M (n + 1) true st1 op1 part1) gx 4 gy 4 Th By xb #[.int .i64 oK, .string ⟨oA.toArray⟩, .slice ua L uc, .int .i64 oM]) := HC6.out.below HBT.out
                have cx := (HCT.out.k.cells k hk4).1
                have cy := (HCT.out.k.cells k hk4).2.1
                have fx := (HCT.out.k.cells k hk4).2.2.1
                have fy := (HCT.out.k.cells k hk4).2.2.2
                have xo := BxA.cell HCT.out.o 2 _ rfl
                have xl := conv_string T _ _ (HCl.out T HCT.out.k.ls.bel)
                rw [← HTK.out] at cx
                rw [← HYK.out] at cy
                clear hw'' zx zy zo zl
                have kF := off_any T d (N + 1048584) F6 _ HCT.out.k.ls.dk
                have kOn := on_any T d (N + 1048584) F6 _ HCT.out.k.ls.dk
                have HOP : Hid (bopen (bS M (n + 1) false st1 op1 part1) = (0, bS M (n + 1) false st1 op1 part1)) := bopen_s
                have HGE : Hid (bget (bS M (n + 1) false st1 op1 part1) (nmS k) = (0, yk)) := by apply hide; rw [HYK.out]; exact bget_in (M := M) rfl HI.out.bl rfl (HI.out.yes k hk4 HTK.out.symm)
                have hnm := (nmS_facts k hk4).2.1
                go_wp2_with fail
                refine wp_loop_rounds 2 ?_
                rw [rounds_succ]
                go_wp2_with fail
                refine kF.mono ?_
                rintro e wf ⟨rfl, rfl⟩
                clear kF
                go_wp2_with fail
                refine kOn.mono ?_
                rintro e w7 ⟨rfl, d7, f7⟩
                have HC7 : Hid (Kc w w7 p d F6 (N + 1048584) (bS M (n + 1) false st1 op1 part1) gx 4 gy 4 Th By xb #[.int .i64 oK, .string ⟨oA.toArray⟩, .slice ua L uc, .int .i64 oM]) := HCT.out.dk d7 f7
                have kOp := openB_any w7 d (N + 1048584) F6 (bS M (n + 1) false st1 op1 part1) HC7.out.k.ls.dk (by show n + 1 < 990000; omega)
                rw [HOP.out] at kOp
                clear kOn d7 f7 HCT
                go_wp2_with fail
                refine kOp.mono ?_
                intro e w8 k8
                obtain ⟨p8, rfl, h8⟩ := HC7.out.opn k8
                have HC8 : Hid (Kc w w8 p8 d F6 (N + 1048584) (bS M (n + 1) false st1 op1 part1) gx 4 gy 4 Th By xb #[.int .i64 oK, .string ⟨oA.toArray⟩, .slice ua L uc, .int .i64 oM]) := h8
                have kF2 := off_any w8 d (N + 1048584) F6 _ h8.k.ls.dk
                have kN := name_any w8 k hk4
                clear kOp k8 h8 HC7
                go_wp2_with fail
                rw [rounds_succ]
                go_wp2_with fail
                refine kF2.mono ?_
                rintro e wf2 ⟨rfl, rfl⟩
                clear kF2
                go_wp2_with fail
                refine kN.mono ?_
                rintro e w9 ⟨rfl, b9⟩
                have HC9 : Hid (Kc w w9 p8 d F6 (N + 1048584) (bS M (n + 1) false st1 op1 part1) gx 4 gy 4 Th By xb #[.int .i64 oK, .string ⟨oA.toArray⟩, .slice ua L uc, .int .i64 oM]) := HC8.out.below b9
                have kG := get_ls w w9 p8 d (N + 1048584) F6 (bS M (n + 1) false st1 op1 part1) (nmS k) HC9.out.k.ls (Nat.le_trans hnm (by decide)) (by omega)
                rw [HGE.out] at kG
                obtain ⟨q, hq⟩ : ∃ q, q = nmS k := ⟨_, rfl⟩
                rw [← hq] at kG
                rw [← hq]
                clear kN b9 HC8 hq
                go_wp2_with fail
                refine kG.mono ?_
                rintro e wa ⟨va9, rfl, oa, ba⟩
                have HCa : Hid (Kc w wa p8 d F6 (N + 1048584) (bS M (n + 1) false st1 op1 part1) gx 4 gy 4 Th By xb #[.int .i64 oK, .string ⟨oA.toArray⟩, .slice ua L uc, .int .i64 oM]) := HC9.out.below ba
                obtain ⟨za, zc, hza, -⟩ := oa.reads
                subst hza
                have ca := (HCa.out.k.cells k hk4).1
                rw [← HTK.out] at ca
                have kH := holdsL_any w wa p8 d (N + 1048584) gx 4 gy 4 (n + 1) st1 op1 part1 F6 M Th By HI.out HCa.out.k (by omega) (by omega) (by omega)
                clear kG oa ba HC9
                go_wp2_with fail
                refine kH.mono ?_
                rintro e wb ⟨rfl, bb⟩
                have HCb : Hid (Kc w wb p8 d F6 (N + 1048584) (bS M (n + 1) false st1 op1 part1) gx 4 gy 4 Th By xb #[.int .i64 oK, .string ⟨oA.toArray⟩, .slice ua L uc, .int .i64 oM]) := HCa.out.below bb
                have kL := list_any wb d (N + 1048584) F6 (bS M (n + 1) false st1 op1 part1) [116, 46] HCb.out.k.ls.dk
                rw [(lst_b (s := bS M (n + 1) false st1 op1 part1) (M := M) rfl rfl).2] at kL
                clear kH bb HCa ca
                go_wp2_with fail
                refine kL.mono ?_
                rintro e wc ⟨lv, rfl, ol9, -, bl⟩
                have HCc : Hid (Kc w wc p8 d F6 (N + 1048584) (bS M (n + 1) false st1 op1 part1) gx 4 gy 4 Th By xb #[.int .i64 oK, .string ⟨oA.toArray⟩, .slice ua L uc, .int .i64 oM]) := HCb.out.below bl
                obtain ⟨la, lc, hlv, -⟩ := ol9.rds
                replace hlv : lv = .slice la 0 lc := hlv
                subst hlv
                clear kL ol9 bl HCb
                go_wp2_with fail
                go_roundg (80 - (i + 1))
                case measure => exact Nat.lt_of_lt_of_le (Nat.sub_lt_sub_left hi80 (Nat.lt_succ_self i)) hkx
                case rel => exact ⟨i + 1, a1, N + 1048584, n + 1, p8, st1, op1, part1, _, M, Th, By, rfl, rfl, by first | (rw [HW1.out]; rfl) | rfl, hi80, Nat.le_refl _, ha1, by omega, by omega, HI, HCc.out.k⟩
    · have kH := holdsL_any w wo p d N gx 4 gy 4 n st op part F M Th By HI.out HK.out (by omega) (by omega) (by omega)
      by_cases hq1 : i < n1
      · have hzi1 : (i : Int) < (n1 : Int) := by omega
        have hzi2 : ¬ (i : Int) < 80 := by omega
        go_wp2_with fail
        refine kH.mono ?_
        rintro e wb ⟨rfl, bb⟩
        have HBb : Hid _ := bb
        clear kH bb
        go_wp2_with fail
        go_ret
        exact ⟨rfl, HK.out.ls.bel.trans (HBb.out.mono HK.out.ls.bel.size)⟩
      · have hzi1 : ¬ (i : Int) < (n1 : Int) := by omega
        go_wp2_with fail
        refine kH.mono ?_
        rintro e wb ⟨rfl, bb⟩
        have HBb : Hid _ := bb
        clear kH bb
        go_wp2_with fail
        go_ret
        exact ⟨rfl, HK.out.ls.bel.trans (HBb.out.mono HK.out.ls.bel.size)⟩
end Go.Proofs.Ythegdhbmfojdaaa
