/- LineCut, the walk. -/
import Derived.Test.YtgbmigfamefenaaAll
namespace Go.Proofs.Ytgbmigfamefenaa
open Go.Shelf Go.RowKit Go.Maps Go.Sort
set_option linter.unusedVariables false

/-- A piece, a stretch, holds a time. -/
def inP (x : Int) (p : Pc) : Bool := decide (p.2.1 ≤ x) && decide (x < p.2.2)
def inS (x : Int) (t : S3) : Bool := decide (t.2.1 ≤ x) && decide (x < t.2.2)
theorem inS_iff {x : Int} {t : S3} : inS x t = true ↔ t.2.1 ≤ x ∧ x < t.2.2 := by
  unfold inS
  rw [Bool.and_eq_true, decide_eq_true_eq, decide_eq_true_eq]
theorem lkF_filter (s : List Es) (x : Int) (o : List S3) : (lkF s o).filter (inP x) = lkF s (o.filter (inS x)) := by
  unfold lkF
  induction o with
  | nil => rfl
  | cons t o ih =>
    rw [List.flatMap_cons, List.filter_append, ih]
    by_cases h : inS x t = true
    · rw [List.filter_cons_of_pos h, List.flatMap_cons]
      congr 1
      rw [List.filter_eq_self]
      intro p hp
      unfold pcs at hp
      obtain ⟨g, _, rfl⟩ := List.mem_map.1 hp
      exact h
    · rw [List.filter_cons_of_neg h]
      have : (pcs s t).filter (inP x) = [] := by
        rw [List.filter_eq_nil_iff]
        intro p hp
        unfold pcs at hp
        obtain ⟨g, _, rfl⟩ := List.mem_map.1 hp
        exact h
      rw [this]
      rfl
theorem filter_cut {C : List K3} {o : List S3} {a b x : Int} (h : Cut C o a b) (h1 : a ≤ x) (h2 : x < b) : (o.filter (inS x) = [] ∧ ¬ ∃ k ∈ C, Hl k x) ∨ ∃ t, o.filter (inS x) = [t] ∧ Bst C x t.1 := by
  have hm : ∀ t ∈ o.filter (inS x), t ∈ o ∧ t.2.1 ≤ x ∧ x < t.2.2 := fun t ht => by
    have := List.mem_filter.1 ht
    exact ⟨this.1, inS_iff.1 this.2⟩
  have hch : (o.filter (inS x)).Pairwise fun a b => a.2.2 ≤ b.2.1 := List.Pairwise.sublist List.filter_sublist h.ch
  match hf : o.filter (inS x), hm, hch with
  | [], hm, _ =>
    left
    refine ⟨rfl, fun hk => ?_⟩
    obtain ⟨t, ht, q1, q2⟩ := h.all x h1 h2 hk
    have : t ∈ o.filter (inS x) := List.mem_filter.2 ⟨ht, inS_iff.2 ⟨q1, q2⟩⟩
    rw [hf] at this
    cases this
  | [t], hm, _ =>
    obtain ⟨q0, q1, q2⟩ := hm t (List.mem_cons_self ..)
    exact .inr ⟨t, rfl, h.is t q0 x q1 q2⟩
  | t :: u :: r, hm, hch =>
    exfalso
    obtain ⟨_, q1, q2⟩ := hm t (List.mem_cons_self ..)
    obtain ⟨_, q3, q4⟩ := hm u (List.mem_cons_of_mem _ (List.mem_cons_self ..))
    have := (List.pairwise_cons.1 hch).1 u (List.mem_cons_self ..)
    omega
theorem pcs_fst (s : List Es) (t : S3) : (pcs s t).map Prod.fst = sgsOf s t.1 := by
  unfold pcs
  rw [List.map_map]
  exact List.map_id _
theorem cut_say {s : List Es} (hs : Wf s) {a b x : Int} {out out' : List S3} (h : Say (keysF (pC a b s) s) out 1099511627776) (h' : Say (keysF (pC x (x + 1) s) s) out' 1099511627776) (h1 : a ≤ x) (h2 : x < b) :
    ((lkF s (cutS a b out)).filter (inP x)).map Prod.fst = (lkF s (cutS x (x + 1) out')).map Prod.fst := by
  have hc := cut_of hs h
  have hc' := cut_of hs h'
  rw [lkF_filter]
  rcases filter_cut hc h1 h2 with ⟨q, hno⟩ | ⟨t, q, hb⟩
  · rw [q]
    rcases one_cut hc' with r | ⟨u, r, _, _, hu⟩
    · rw [r]
    · exact absurd ⟨u.1, hu.mem, hu.hl⟩ hno
  · rw [q]
    rcases one_cut hc' with r | ⟨u, r, _, _, hu⟩
    · exfalso
      obtain ⟨v, hv, _⟩ := hc'.all x (Int.le_refl _) (by omega) ⟨t.1, hb.mem, hb.hl⟩
      rw [r] at hv
      cases hv
    · rw [r, lkF_one, lkF_one, pcs_fst, pcs_fst, hb.unique hu]
theorem chn_len : ∀ (o : List S3) (a b : Int), (∀ t ∈ o, t.2.1 < t.2.2) → Chn o → (∀ t ∈ o, a ≤ t.2.1 ∧ t.2.2 ≤ b) → (o.length : Int) ≤ max (b - a) 0
  | [], a, b, _, _, _ => by simp; omega
  | t :: o, a, b, h1, h2, h3 => by
    obtain ⟨c1, c2⟩ := List.pairwise_cons.1 h2
    have ih := chn_len o t.2.2 b (fun u hu => h1 u (List.mem_cons_of_mem _ hu)) c2 fun u hu => ⟨c1 u hu, (h3 u (List.mem_cons_of_mem _ hu)).2⟩
    have q1 := h1 t (List.mem_cons_self ..)
    have q2 := h3 t (List.mem_cons_self ..)
    rw [List.length_cons]
    omega
theorem lkF_lenO {s : List Es} {m : Nat} (h : ∀ e ∈ s, e.2.2.length ≤ m) (o : List S3) : (lkF s o).length ≤ o.length * m := by
  unfold lkF
  induction o with
  | nil => simp
  | cons t o ih =>
    rw [List.flatMap_cons, List.length_append, List.length_cons, Nat.succ_mul]
    have h1 : (pcs s t).length ≤ m := by
      unfold pcs
      rw [List.length_map]
      exact sgsOf_len h _
    omega
theorem filter_take {α : Type} {l : List α} {P : α → Bool} {i : Nat} (hi : i < l.length) : (l.take (i + 1)).filter P = (l.take i).filter P ++ if P l[i] then [l[i]] else [] := by
  rw [List.take_succ_eq_append_getElem hi, List.filter_append]
  congr 1
  by_cases h : P l[i] = true <;> simp [h]
/-- The i-th piece that holds the time is the next one that is told of the time alone. -/
theorem next_same {l : List Pc} {q : List Pc} {x : Int} (h : (l.filter (inP x)).map Prod.fst = q.map Prod.fst) {i : Nat} (hi : i < l.length) (hin : inP x l[i] = true) : ∃ hn : ((l.take i).filter (inP x)).length < q.length, q[((l.take i).filter (inP x)).length].1 = l[i].1 := by
  have e1 : l.filter (inP x) = (l.take i).filter (inP x) ++ l[i] :: ((l.drop (i + 1)).filter (inP x)) := by
    conv => lhs; rw [← List.take_append_drop i l, List.filter_append, List.drop_eq_getElem_cons hi, List.filter_cons_of_pos hin]
  rw [e1, List.map_append, List.map_cons] at h
  have hl := congrArg List.length h
  simp only [List.length_append, List.length_map, List.length_cons] at hl
  refine ⟨by omega, ?_⟩
  have h2 : (((l.take i).filter (inP x)).map Prod.fst ++ (l[i].1 :: ((l.drop (i + 1)).filter (inP x)).map Prod.fst))[((l.take i).filter (inP x)).length]? = (q.map Prod.fst)[((l.take i).filter (inP x)).length]? := by rw [h]
  rw [List.getElem?_append_right (by simp), List.length_map, Nat.sub_self, List.getElem?_cons_zero, List.getElem?_map, List.getElem?_eq_getElem (by omega)] at h2
  simpa using h2.symm
theorem next_same' {l : List Pc} {q : List Pc} {x : Int} (h : (l.filter (inP x)).map Prod.fst = q.map Prod.fst) {i c : Nat} (hi : i < l.length) (hc : c = ((l.take i).filter (inP x)).length) (hin : inP x l[i] = true) : ∃ hn : c < q.length, q[c].1 = l[i].1 := by
  subst hc
  exact next_same h hi hin
set_option maxRecDepth 100000 in
set_option maxHeartbeats 12800000 in
theorem cut_walk (w : World) (v : Value) (raw : List Sg) (h : Sgr w v raw) (hB : ∀ g ∈ raw, B5 g) (hb : raw.length * 40 ≤ 140737488351232) (f0 : Int) (hf : In64 f0) (l0 : Int) (hl0 : In64 l0) :
    Calls Try.prog 5 #[v, .int .i64 f0, .int .i64 l0] w fun e w' => e = .returned (.bool true) ∧ Below w.heap.size w w' := by
  have mixed : Try.prog.follows .mixedOrders = true := by kernel_rfl
  have kW := awake_any w
  have HR := hide h
  have HB5 := hide hB
  have kA1 := fun w' => abs_any w' f0 hf.1 hf.2
  have ha1 := absN_lt hf.1 hf.2
  have kA2 := fun w' => abs_any w' l0 hl0.1 hl0.2
  have ha2 := absN_lt hl0.1 hl0.2
  obtain ⟨A, hA⟩ : ∃ A, A = absN f0 := ⟨_, rfl⟩
  obtain ⟨B, hBe⟩ : ∃ B, B = absN l0 := ⟨_, rfl⟩
  rw [← hA] at kA1 ha1
  rw [← hBe] at kA2 ha2
  obtain ⟨L, hL⟩ : ∃ L : Nat, L = B % 24 := ⟨_, rfl⟩
  have hLi : (B : Int) % 24 = (L : Int) := by omega
  have hL24 : L < 24 := by omega
  obtain ⟨a, hae⟩ : ∃ a : Int, a = (A : Int) % 24 - 1 := ⟨_, rfl⟩
  have ha0 : -1 ≤ a ∧ a < 23 := by omega
  have hw0 : IntKind.i64.wrap ((A : Int) % 24 - 1) = (A : Int) % 24 - 1 := by rw [IntKind.wrap_i64]; omega
  have hw0' : wrap64 ((A : Int) % 24 - 1) = (A : Int) % 24 - 1 := by rw [← IntWalk.i64_left]; exact hw0
  have hw3 : IntKind.i64.wrap (a + (B : Int) % 24) = a + (B : Int) % 24 := by rw [IntKind.wrap_i64]; omega
  have hw3' : wrap64 (a + (B : Int) % 24) = a + (B : Int) % 24 := by rw [← IntWalk.i64_left]; exact hw3
  clear h hB hb hA hBe hf hl0
  go_enter Try.func5, Try.ntmps5
  go_wp2_with fail
  refine kW.mono ?_
  rintro ev w1 ⟨rfl, b1⟩
  have HB1 := hide b1
  have kM := made_any w1 v raw 40 (HR.out.up b1) HB5.out (Nat.le_refl _)
  clear kW b1
  go_wp2_with fail
  refine kM.mono ?_
  rintro ev w2 ⟨t, F, s, vl, l, rfl, hmd, hll⟩
  have HMD := hide hmd
  have HB2 : Hid (Below w.heap.size w w2) := HB1.out.trans (hmd.bel.mono HB1.out.size)
  clear kM hmd
  go_wp2_with fail
  refine (kA1 _).mono ?_
  rintro ev w' ⟨rfl, rfl⟩
  have HAE := hide hae
  have HLI := hide hLi
  clear kA1 hae hLi hL
  go_upto_region 6 with fail
  rw [← HAE.out]
  clear hw0 hw0'
  go_wp2_with fail
  refine (kA2 _).mono ?_
  rintro ev w'' ⟨rfl, rfl⟩
  clear kA2
  go_upto_region 7 with fail
  rw [HLI.out]
  have kL := lookup_any w'' t F s a (a + (L : Int)) HMD.out.tl HMD.out.wf (by have := HMD.out.len.1; omega) (fun e he => by have := HMD.out.len.2 e he; omega)
  go_wp2_with fail
  refine kL.mono ?_
  rintro ev w3 ⟨vp, rfl, out, sy, o3, b3⟩
  obtain ⟨p, hp⟩ : ∃ p, p = lkF s (cutS a (a + (L : Int)) out) := ⟨_, rfl⟩
  have hpl : p.length ≤ 2100000 := by
    rw [hp]
    have hc := cut_of HMD.out.wf sy
    have h1 := chn_len _ _ _ hc.ne hc.ch hc.wi
    have h2 := lkF_lenO (m := 40) (fun e he => by have := HMD.out.len.2 e he; omega) (cutS a (a + (L : Int)) out)
    omega
  rw [← hp] at o3
  have HM3 : Hid (Md w1 w3 t F s vl l) := HMD.out.below b3
  have HB3 : Hid (Below w.heap.size w w3) := HB2.out.trans (b3.mono HB2.out.size)
  have HSY := hide sy
  have HP := hide hp
  have hpg := Pgr.of o3
  obtain ⟨pa, pc, hvp, hp1, hp2, hp3⟩ := hpg.ex
  have HP3 := hide hp3
  obtain ⟨m, hm⟩ : ∃ m, m = p.length := ⟨_, rfl⟩
  rw [← hm] at hvp hp1 hpl
  have HM := hide hm
  unfold maxLen at hp2
  clear kL sy o3 b3 hpg hp3 hp hm
  subst hvp
  go_wp2_with fail
  go_loopg [13, 14, 15, 16] L (fun kx v13 _ _ _ wr => ∃ (i : Nat), v13 = .int .i64 (a + (i : Int)) ∧ i ≤ L ∧ L - i ≤ kx ∧ Hid (Below w3.heap.size w3 wr))
  case atStart => exact ⟨0, by simp, Nat.zero_le _, Nat.le_refl _, Below.refl _ _⟩
  case round =>
    obtain ⟨i, rfl, hi, hkx, HB⟩ := hrel
    obtain ⟨x, hx⟩ : ∃ x : Int, x = a + (i : Int) := ⟨_, rfl⟩
    rw [← hx]
    have hxb : -1 ≤ x ∧ x < 47 := by omega
    by_cases hlt : i < L
    · have hltz : x < a + (L : Int) := by omega
      have hax : a ≤ x := by omega
      have hw1 : IntKind.i64.wrap (x + 1) = x + 1 := by rw [IntKind.wrap_i64]; omega
      have hw2 : wrap64 (x + 1) = x + 1 := by rw [← IntWalk.i64_left]; exact hw1
      have hmr := HM3.out.below HB.out
      have kQ := lookup_any wr t F s x (x + 1) hmr.tl hmr.wf (by have := hmr.len.1; omega) (fun e he => by have := hmr.len.2 e he; omega)
      have HXE : Hid (a + ((i + 1 : Nat) : Int) = x + 1) := by apply hide; omega
      clear hx hmr
      go_wp2_with fail
      refine kQ.mono ?_
      rintro ev w4 ⟨vq, rfl, out2, sy2, o4, b4⟩
      have hsame := cut_say HM3.out.wf HSY.out sy2 hax hltz
      rw [← HP.out] at hsame
      obtain ⟨q, hq⟩ : ∃ q, q = lkF s (cutS x (x + 1) out2) := ⟨_, rfl⟩
      rw [← hq] at o4 hsame
      have HSM := hide hsame
      have HB4 : Hid (Below w3.heap.size w3 w4) := HB.out.trans (b4.mono HB.out.size)
      have hqg := Pgr.of o4
      obtain ⟨qa, qc, hvq, hq1, hq2, hq3⟩ := hqg.ex
      have HQ3 := hide hq3
      obtain ⟨k, hk⟩ : ∃ k, k = q.length := ⟨_, rfl⟩
      rw [← hk] at hvq hq1
      have HK := hide hk
      unfold maxLen at hq2
      clear kQ sy2 o4 b4 hsame hq hqg hq3 hk
      subst hvq
      go_wp2_with fail
      go_loopg [15, 16] m (fun kx2 v15 v16 wq => ∃ (j : Nat), v16 = .int .i64 (j : Int) ∧ j ≤ m ∧ m - j ≤ kx2 ∧ v15 = .int .i64 (((p.take j).filter (inP x)).length : Nat) ∧ Hid (Grows w4 wq))
      case atStart => exact ⟨0, rfl, Nat.zero_le _, Nat.le_refl _, rfl, Grows.refl _⟩
      case round =>
        rename World => wq
        obtain ⟨j, rfl, hj, hkx2, rfl, HG⟩ := hrel
        obtain ⟨cn, hcn⟩ : ∃ c, c = ((p.take j).filter (inP x)).length := ⟨_, rfl⟩
        have hcl : cn ≤ 2100000 := by rw [hcn]; refine Nat.le_trans (List.length_filter_le _ _) ?_; rw [List.length_take]; omega
        by_cases hjl : j < m
        · have hjz : (j : Int) < (m : Int) := by omega
          have hjp : j < p.length := by have := HM.out; omega
          obtain ⟨pb, po, rfl, hat⟩ := HP3.out (by omega)
          have ha := ((hat j hjp).up HB4.out).up HG.out.below
          have htk := filter_take (P := inP x) hjp
          have hnx := fun hh => next_same' HSM.out hjp hcn hh
          obtain ⟨z, hz⟩ : ∃ z, z = p[j] := ⟨_, rfl⟩
          rw [← hz] at ha htk hnx
          obtain ⟨⟨⟨z1, z2, z3⟩, z4, z5⟩, z6, z7⟩ := z
          have d5 := ha.c5
          have d6 := ha.c6
          have y0 := fun nq os => gro_cell ha.g.c0 nq os
          have y1 := fun nq os => gro_cell ha.g.c1 nq os
          have y2 := fun nq os => gro_cell ha.g.c2 nq os
          have y3 := fun nq os => gro_cell ha.g.c3 nq os
          have y4 := fun nq os => gro_cell ha.g.c4 nq os
          simp only at d5 d6 y0 y1 y2 y3 y4
          have HTK := hide htk
          have HCN := hide hcn
          rw [← hcn]
          have HNX := hide hnx
          have HW1 : Hid (wrap64 ((j : Int) + 1) = (j : Int) + 1) := by apply hide; rw [← IntWalk.i64_left, IntKind.wrap_i64]; omega
          clear ha hz htk hat hcn hnx hw1 hw2 hw3 hw3'
          by_cases hin : z6 ≤ x ∧ x < z7
          · obtain ⟨hin1, hin2⟩ := hin
            have hinB : inP x (((z1, z2, z3), z4, z5), z6, z7) = true := by unfold inP; rw [decide_eq_true hin1, decide_eq_true hin2]; rfl
            obtain ⟨hnk, hns⟩ := HNX.out hinB
            have hckz : (cn : Int) < (k : Int) := by have := HK.out; omega
            have hckn : ¬ (k : Int) ≤ (cn : Int) := by omega
            obtain ⟨qb, qo, rfl, hqt⟩ := HQ3.out (by omega)
            have hqn := (hqt cn hnk).up HG.out.below
            have u0 := fun nq os => gro_cell hqn.g.c0 nq os
            have u1 := fun nq os => gro_cell hqn.g.c1 nq os
            have u2 := fun nq os => gro_cell hqn.g.c2 nq os
            have u3 := fun nq os => gro_cell hqn.g.c3 nq os
            have u4 := fun nq os => gro_cell hqn.g.c4 nq os
            simp only [hns] at u0 u1 u2 u3 u4
            have HINB := hide hinB
            have HW2 : Hid (wrap64 ((cn : Int) + 1) = (cn : Int) + 1) := by apply hide; rw [← IntWalk.i64_left, IntKind.wrap_i64]; omega
            clear hqn hqt hinB hns hnk
            go_upto_region 17 with fail
            clear d5 d6
            refine wp_region_quiet_grown (by assumption) (by kernel_rfl) ?_
            repeat (go_big_quiet_step (first | fail))
            refine wpQuiet_nil ?_
            intro V hw'
            obtain ⟨⟨nq, osq⟩, hw''⟩ := hw'
            have HGV : Hid (Grows w4 V) := by apply hide; rw [hw'']; exact HG.out.trans ⟨nq, osq, rfl⟩
            clear hw'' y0 y1 y2 y3 y4 u0 u1 u2 u3 u4
            go_wp2_with fail
            go_roundg (m - (j + 1))
            case measure => omega
            case rel => exact ⟨j + 1, by first | (rw [HW1.out]; rfl) | rfl, hjl, Nat.le_refl _, by rw [HTK.out, HINB.out, if_pos rfl, List.length_append, ← HCN.out]; first | (rw [HW2.out]; rfl) | rfl, HGV⟩
          · have hinB : inP x (((z1, z2, z3), z4, z5), z6, z7) = false := by
              unfold inP
              rw [Bool.and_eq_false_iff, decide_eq_false_iff_not, decide_eq_false_iff_not]
              exact (by omega : ¬ z6 ≤ x ∨ ¬ x < z7)
            have HINB := hide hinB
            have hsplit : x < z6 ∨ (¬ x < z6 ∧ z7 ≤ x) := by omega
            clear y0 y1 y2 y3 y4 hinB hin
            rcases hsplit with h1 | ⟨h1, h2⟩
            · go_wp2_with fail
              go_roundg (m - (j + 1))
              case measure => omega
              case rel => exact ⟨j + 1, by first | (rw [HW1.out]; rfl) | rfl, hjl, Nat.le_refl _, by rw [HTK.out, HINB.out, if_neg (by simp), List.append_nil, ← HCN.out], HG⟩
            · go_wp2_with fail
              go_roundg (m - (j + 1))
              case measure => omega
              case rel => exact ⟨j + 1, by first | (rw [HW1.out]; rfl) | rfl, hjl, Nat.le_refl _, by rw [HTK.out, HINB.out, if_neg (by simp), List.append_nil, ← HCN.out], HG⟩
        · have hjz : ¬ (j : Int) < (m : Int) := by omega
          have hct : ((p.take j).filter (inP x)).length = k := by
            rw [List.take_of_length_le (by have := HM.out; omega), HK.out]
            have := congrArg List.length HSM.out
            simpa using this
          rw [hct]
          clear hct hcn hw1
          go_wp2_with fail
          go_roundg (L - (i + 1))
          case measure => omega
          case rel => exact ⟨i + 1, by rw [HXE.out], hlt, Nat.le_refl _, HB4.out.trans (HG.out.below.mono HB4.out.size)⟩
    · have hltz : ¬ x < a + (L : Int) := by omega
      go_wp2_with fail
      go_ret
      exact ⟨rfl, HB3.out.trans (HB.out.mono HB3.out.size)⟩
end Go.Proofs.Ytgbmigfamefenaa
