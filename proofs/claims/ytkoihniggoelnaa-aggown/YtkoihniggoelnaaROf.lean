/- The contract of the reference's Of. -/
import Derived.Test.YtkoihniggoelnaaRPut
import Derived.Test.YtkoihniggoelnaaRgt0
import Derived.Test.YtkoihniggoelnaaRegF
import Derived.BigQuiet
import Derived.Deep.DeepCutAuto
import Derived.Deep.RegionHeld
namespace Go.Proofs.Ytkoihniggoelnaa
open Go.RowKit Go.Sort

theorem atI_nat {l : List Int} {c : Nat} (h : c < l.length) : atI l (c : Int) = l.getD c 0 := by
  unfold atI
  rw [if_pos ⟨by omega, by omega⟩]
  simp
theorem atS_nat {l : List Str} {c : Nat} (h : c < l.length) : atS l (c : Int) = l.getD c [] := by
  unfold atS
  rw [if_pos ⟨by omega, by omega⟩]
  simp
theorem rfold_same (k c : Int) {l : List En} (h : AOk l) (ht : tot l < 18446744073709551616) : l.foldl (rstep k c) U0 = ofP k c l := rof_same l 0 U0 h (Gd.unit k) (by omega) (by omega)
/-- Behind a store of the number. -/
theorem box_v {w X w' : World} {B : Nat} {x y z u : Value} (h : Box3 w B x y z) (b : Below w.heap.size w X) (e : w' = X.setCell ⟨B, 1, none⟩ u) : Box3 w' B x u z := by
  have hx := h.up b
  rw [e]
  exact ⟨by rw [World.cell?_setCell_other _ _ _ _ (by simp)]; exact hx.c0, World.cell?_setCell_same _ _ _ hx.c1, by rw [World.cell?_setCell_other _ _ _ _ (by simp)]; exact hx.c2, fun c => by simpa using hx.fr c⟩
theorem up_drew {w : World} {B : Nat} {W1 : World} {J : P0} (h : ∃ r : Pt, Box3 w B (.int .u64 r.n) (.int .i64 r.v) r.tv ∧ r.Ok w ∧ r.p0 = J ∧ New (B + 1) r.tv ∧ Below W1.heap.size W1 w) : ∃ r : Pt, Box3 w.drew B (.int .u64 r.n) (.int .i64 r.v) r.tv ∧ r.Ok w.drew ∧ r.p0 = J ∧ New (B + 1) r.tv ∧ Below W1.heap.size W1 w.drew := by
  obtain ⟨r, h1, h2, h3, h4, h5⟩ := h
  have b : Below w.heap.size w w.drew := below_dN (Below.refl _ _) 1
  exact ⟨r, h1.up b, h2.up b, h3, h4, h5.trans (b.mono h5.size)⟩
set_option maxRecDepth 100000 in
set_option maxHeartbeats 8000000 in
theorem refof_any (w : World) (k : Int) (cc : Nat) (v : Value) (l : List En) (h : RdsM w v l) (hcc : cc ≤ 1) (_hk15 : 1 ≤ k ∧ k ≤ 5) (hl2 : ∀ e ∈ l, e.f.ds.length = 2 ∧ e.f.ms.length = 2) (hA : AOk l) (ht : tot l < 18446744073709551616) (hbig : l.length ≤ 200) :
    Calls Try.prog 17 #[.agg #[.int .i64 k, .int .i64 (cc : Int)], v] w (Gives (l.foldl (rstep k (cc : Int)) U0) w) := by
  obtain ⟨ao, n, cap, rfl⟩ := h.sl
  obtain ⟨hn, hc1, hc2⟩ := h.len
  unfold maxLen at hc2
  obtain ⟨W1, hW⟩ : ∃ W1, W1 = (w.alloc (.cells #[.int .i64 k, .int .i64 (cc : Int)] 26)).alloc (.cells #[.int .u64 0, .int .i64 0, .slice none 0 0] 30) := ⟨_, rfl⟩
  have gW : Grows w W1 := by rw [hW]; exact (Grows.alloc _ _).trans (Grows.alloc _ _)
  have ha0 : W1.cell? ⟨w.heap.size, 0, none⟩ = some (.int .i64 k) ∧ W1.cell? ⟨w.heap.size, 1, none⟩ = some (.int .i64 (cc : Int)) := by
    rw [hW]
    exact ⟨cell_up (Grows.alloc _ _).below (al_new _ _ _ rfl rfl), cell_up (Grows.alloc _ _).below (al_new _ _ _ rfl rfl)⟩
  have hbx : Box3 W1 (w.heap.size + 1) (.int .u64 0) (.int .i64 0) (.slice none 0 0) := by rw [hW]; exact Box3.new _ _ _ _ _ _ (by simp)
  have HN : Hid (n = l.length) := hn
  have hn9 : n ≤ 200 := by omega
  have HH1 : Hid (RdsM W1 (.slice ao n cap) l) := h.below gW.below
  have HG1 : Hid (Below w.heap.size w W1 ∧ AOk l ∧ tot l < 18446744073709551616 ∧ ∀ e ∈ l, e.f.ds.length = 2 ∧ e.f.ms.length = 2) := ⟨gW.below, hA, ht, hl2⟩
  have HBX1 : Hid _ := hbx
  have HA1 : Hid _ := ha0
  have HWS : Hid (w.heap.size + 1 < W1.heap.size) := hbx.lt
  have mixed : Try.prog.follows .mixedOrders = true := by kernel_rfl
  obtain ⟨B5, hB5⟩ : ∃ B5, B5 = W1.heap.size := ⟨_, rfl⟩
  have HB5 : Hid (W1.heap.size ≤ B5) := Nat.le_of_eq hB5.symm
  have HI : Hid (Box3 (W1.alloc (.cells #[.int .u64 0, .int .i64 0, .slice none 0 0] 30)) B5 (.int .u64 0) (.int .i64 0) (.slice none 0 0) ∧ Below W1.heap.size W1 (W1.alloc (.cells #[.int .u64 0, .int .i64 0, .slice none 0 0] 30))) := ⟨Box3.new _ _ _ _ _ _ hB5, (Grows.alloc _ _).below⟩
  have HW : Hid _ := hW
  have HBs : Hid (w.heap.size + 1 + 1 = B5) := by show _ = _; rw [hB5, hW]; simp
  clear h hn hbig hW gW ha0 hbx hA ht hl2
  go_enter Try.func17, Try.ntmps17
  go_wp2_with fail
  rw [← HW.out, HBs.out]
  clear hB5
  go_loopg [6, 7] n (fun kx v6 v7 wr => ∃ i : Nat, v7 = .int .i64 i ∧ v6 = .bool (decide (((l.take i).foldl (rstep k (cc : Int)) U0).1 = 0)) ∧ i ≤ n ∧ n - i ≤ kx ∧ Hid (∃ r : Pt, Box3 wr B5 (.int .u64 r.n) (.int .i64 r.v) r.tv ∧ r.Ok wr ∧ r.p0 = (l.take i).foldl (rstep k (cc : Int)) U0 ∧ New (B5 + 1) r.tv ∧ Below W1.heap.size W1 wr))
  case atStart => exact ⟨0, rfl, rfl, by omega, Nat.le_refl _, ⟨0, 0, .slice none 0 0, []⟩, HI.out.1, ⟨Rds.nil _⟩, rfl, New.nil _, HI.out.2⟩
  case round =>
    obtain ⟨i, rfl, rfl, hi, hkx, HX0⟩ := hrel
    by_cases hlt : i < n
    · have hltz : (i : Int) < (n : Int) := by omega
      have hil : i < l.length := by have := HN.out; omega
      obtain ⟨r, bx5, okr, hr, hnr, hbw⟩ := HX0.out
      have hr4 := HH1.out.below hbw
      obtain ⟨-, -, -, b, off, rfl, hcell⟩ := hr4.at (by omega)
      obtain ⟨t0, t1, t2, t3⟩ := hcell i hil
      have okf := hr4.ok l[i] (List.getElem_mem hil)
      obtain ⟨hd2, hm2⟩ := HG1.out.2.2.2 l[i] (List.getElem_mem hil)
      obtain ⟨q0, q1⟩ := And.intro (cell_up hbw HA1.out.1) (cell_up hbw HA1.out.2)
      have hstep : (l.take (i + 1)).foldl (rstep k (cc : Int)) U0 = rstep k cc r.p0 l[i] := by rw [hr]; exact foldl_take (rstep k (cc : Int)) _ l i hil
      have hrn : r.n = ((l.take i).foldl (rstep k (cc : Int)) U0).1 := by rw [← hr]; rfl
      have hgd : Gd k (tot (l.take i)) r.p0 := by
        rw [hr, rfold_same k cc (fun e he => HG1.out.2.1 e (List.mem_of_mem_take he)) (Int.lt_of_le_of_lt (tot_take_le l i) HG1.out.2.2.1)]
        exact of_gd (fun e he => HG1.out.2.1 e (List.mem_of_mem_take he)) (Int.lt_of_le_of_lt (tot_take_le l i) HG1.out.2.2.1)
      have hlen : r.p0.2.2.length ≤ i := by
        rw [hr, rfold_same k cc (fun e he => HG1.out.2.1 e (List.mem_of_mem_take he)) (Int.lt_of_le_of_lt (tot_take_le l i) HG1.out.2.2.1)]
        have h1 := of_len k cc (l.take i) (fun e he => HG1.out.2.1 e (List.mem_of_mem_take he)) (Int.lt_of_le_of_lt (tot_take_le l i) HG1.out.2.2.1)
        rw [List.length_take] at h1
        omega
      have htt := tot_take l i hil
      have htle := tot_take_le l (i + 1)
      have hnb : tot (l.take i) + (l[i].n : Int) < 18446744073709551616 := by have := HG1.out.2.2.1; omega
      rw [← hrn]
      obtain ⟨ad, nd, cd, am, nm, cm, e1, e2, e3, e4, -, hcd, -, hcm, cD, cM⟩ := okf.lens
      obtain ⟨bd, od, rfl, cD2⟩ := cD (by omega)
      obtain ⟨bm, om, rfl, cM2⟩ := cM (by omega)
      have td := cD2 cc (by omega)
      have tm := cM2 cc (by omega)
      have hai := atI_nat (l := l[i].f.ms) (c := cc) (by omega)
      have has := atS_nat (l := l[i].f.ds) (c := cc) (by omega)
      rw [← hai] at tm
      rw [← has] at td
      rw [e1] at t1
      rw [e2] at t2
      rw [hm2] at e4
      rw [hd2] at e3
      subst e3 e4
      unfold maxLen at hcd hcm
      obtain ⟨rn, rv, rtv, rts⟩ := r
      obtain ⟨ra, rl, rc, h5⟩ := okr.rt.sl
      simp only at h5
      subst h5
      simp only [Pt.p0] at hstep hlen
      simp only at hrn
      by_cases hz : l[i].n = 0
      · have hzb : ((l[i].n : Int) == 0) = true := by simp [hz]
        have HX : Hid (∃ r : Pt, Box3 wr B5 (.int .u64 r.n) (.int .i64 r.v) r.tv ∧ r.Ok wr ∧ r.p0 = (l.take (i + 1)).foldl (rstep k (cc : Int)) U0 ∧ New (B5 + 1) r.tv ∧ Below W1.heap.size W1 wr) := ⟨⟨rn, rv, .slice ra rl rc, rts⟩, bx5, okr, by rw [hstep]; unfold rstep; rw [if_pos hz]; rfl, hnr, hbw⟩
        have HF : Hid (Value.bool (decide (rn = 0)) = .bool (decide (((l.take (i + 1)).foldl (rstep k (cc : Int)) U0).1 = 0))) := by show _ = _; rw [hstep]; unfold rstep; rw [if_pos hz]
        generalize l[i] = e at *
        clear hstep hgd hlen htt htle hnb okf hr4 hcell bx5 okr hr hnr hbw cD cM cD2 cM2 td tm hai has e1 e2 hd2 hm2 HX0 hrn
        go_wp2_with fail
        go_roundg (n - (i + 1))
        case measure => omega
        case rel => exact ⟨i + 1, by go_num, HF.out, by omega, Nat.le_refl _, HX⟩
      · have hzb : ((l[i].n : Int) == 0) = false := by simp; omega
        have HJ : Hid ((l.take (i + 1)).foldl (rstep k (cc : Int)) U0 = (IntKind.u64.wrap (rn + (l[i].n : Int)), if k = 2 then wrap64 (rv + wrap64 (atI l[i].f.ms cc * wrap64 (l[i].n : Int))) else if k = 3 then (if rn = 0 ∨ atI l[i].f.ms cc < rv then atI l[i].f.ms cc else rv) else if k = 4 then (if rn = 0 ∨ rv < atI l[i].f.ms cc then atI l[i].f.ms cc else rv) else rv, if k = 5 then putT rts (atS l[i].f.ds cc) else rts)) := by
          show _ = _
          rw [hstep]
          unfold rstep
          rw [if_neg hz]
        have HF : Hid (Value.bool false = .bool (decide (((l.take (i + 1)).foldl (rstep k (cc : Int)) U0).1 = 0))) := by
          show _ = _
          rw [HJ.out]
          have h1 := hgd.n0
          have h2 := hgd.nM
          simp only [Pt.p0] at h1 h2
          simp only
          rw [u64_in (by omega) (by omega), decide_eq_false (by omega)]
        have HLT : Hid (b < W1.heap.size ∧ bd < W1.heap.size ∧ bm < W1.heap.size ∧ w.heap.size < W1.heap.size) := by
          obtain ⟨-, -, -, b', off', e, hc'⟩ := HH1.out.at (by omega)
          cases e
          have okf1 := HH1.out.ok l[i] (List.getElem_mem hil)
          have x1 := okf1.rd
          have x2 := okf1.rm
          rw [e1] at x1
          rw [e2] at x2
          obtain ⟨-, -, -, y1⟩ := x1.cells
          obtain ⟨-, -, -, y2⟩ := x2.cells
          rw [sv_length] at y1
          rw [iv_length] at y2
          obtain ⟨_, _, z1, y1⟩ := y1 (by omega)
          obtain ⟨_, _, z2, y2⟩ := y2 (by omega)
          cases z1
          cases z2
          exact ⟨World.block_lt_of_cell? _ _ (hc' i hil).1, World.block_lt_of_cell? _ _ (y1 0 _ (sv_get _ 0 (by omega))), World.block_lt_of_cell? _ _ (y2 0 _ (iv_get _ 0 (by omega))), World.block_lt_of_cell? _ _ HA1.out.1⟩
        have HOK : Hid (Pt.Ok wr ⟨rn, rv, .slice ra rl rc, rts⟩ ∧ New (B5 + 1) (.slice ra rl rc) ∧ Below W1.heap.size W1 wr) := ⟨okr, hnr, hbw⟩
        obtain ⟨mm, hmm⟩ : ∃ mm, mm = atI l[i].f.ms cc := ⟨_, rfl⟩
        obtain ⟨tx, htx⟩ : ∃ tx, tx = atS l[i].f.ds cc := ⟨_, rfl⟩
        obtain ⟨nn, hnn⟩ : ∃ nn, nn = l[i].n := ⟨_, rfl⟩
        rw [← hmm] at HJ tm
        rw [← htx] at HJ td
        rw [← hnn] at HJ t3 hzb
        have bx : Box3 wr B5 (.int .u64 rn) (.int .i64 rv) (.slice ra rl rc) := bx5
        have hccz : (cc : Int) < 2 := by omega
        have hrlen : rts.length ≤ 200 := by omega
        clear hstep hgd hlen htt htle hnb okf hr4 hcell bx5 okr hr hnr hbw cD cM cD2 cM2 hai has e1 e2 hd2 hm2 HX0 hrn hmm htx hnn hz t0
        go_wp2_with fail
        go_cut [6] (fun t wx => t = .bool (decide (rn = 0)) ∧ Hid (Box3 wx B5 (.int .u64 (IntKind.u64.wrap (rn + (nn : Int)))) (.int .i64 rv) (.slice ra rl rc) ∧ Pt.Ok wx ⟨rn, rv, .slice ra rl rc, rts⟩ ∧ Below W1.heap.size W1 wx))
        case first =>
          refine wp_region_invF (β := Value × Value × Value × Value × Value × Value × Value × Value × Value) (fun a0 xq => (((((((((a0.put (some 20) (xq.1)).put (some 21) (xq.2.1)).put (some 22) (xq.2.2.1)).put (some 23) (xq.2.2.2.1)).put (some 24) (xq.2.2.2.2.1)).put (some 25) (xq.2.2.2.2.2.1)).put (some 26) (xq.2.2.2.2.2.2.1)).put (some 27) (xq.2.2.2.2.2.2.2.1)).put (some 28) (xq.2.2.2.2.2.2.2.2))) ?fr20 (fun xq d w' => ((d 9 = false ∧ Below wr.heap.size wr w' ∧ (d 0 = true → Evr w' (fun _ => (xq.1) = .pointer (some ⟨B5, 0, none⟩))) ∧ (d 1 = true → Evr w' (fun _ => (xq.2.1) = .int .u64 rn)) ∧ (d 2 = true → Evr w' (fun _ => (xq.2.2.1) = .slice (some ⟨b, off, none⟩) n cap)) ∧ (d 3 = true → Evr w' (fun _ => (xq.2.2.2.1) = .int .i64 (i : Int))) ∧ (d 4 = true → Evr w' (fun _ => (xq.2.2.2.2.1) = .pointer (some ⟨b, off + i * 4, none⟩))) ∧ (d 5 = true → Evr w' (fun _ => (xq.2.2.2.2.2.1) = .pointer (some ⟨b, off + i * 4 + 3, none⟩))) ∧ (d 6 = true → Evr w' (fun _ => (xq.2.2.2.2.2.2.1) = .int .u64 (nn : Int))) ∧ (d 7 = true → Evr w' (fun _ => (xq.2.2.2.2.2.2.2.1) = .int .u64 (IntKind.u64.wrap (rn + (nn : Int))))) ∧ (d 8 = true → Evr w' (fun _ => (xq.2.2.2.2.2.2.2.2) = .pointer (some ⟨B5, 0, none⟩)))) ∨ ((∀ j, j < 10 → d j = true) ∧ ∃ X, Below wr.heap.size wr X ∧ w' = X.setCell ⟨B5, 0, none⟩ (.int .u64 (IntKind.u64.wrap (rn + (nn : Int))))))) ?lay20 mixed (by kernel_rfl) ?h020 ?hs20 ?he20
          case lay20 =>
            intro xq
            simp only [Act.put, List.setIfInBounds_toArray, List.set_cons_zero, List.set_cons_succ]
            rfl
          case h020 => exact ⟨(u20, u21, u22, u23, u24, u25, u26, u27, u28), rfl, .inl ⟨rfl, below_dN (Below.refl _ _) 1, (fun h => by cases h), (fun h => by cases h), (fun h => by cases h), (fun h => by cases h), (fun h => by cases h), (fun h => by cases h), (fun h => by cases h), (fun h => by cases h), (fun h => by cases h)⟩⟩
          case hs20 =>
            refine ⟨?_, ?_, ?_, ?_, ?_, ?_, ?_, ?_, ?_, ?_, trivial⟩
            · rintro d ⟨x20, x21, x22, x23, x24, x25, x26, x27, x28⟩ w' hI hd hdp K hK
              dsimp only at hI
              rcases hI with ⟨hl, hB, f0, f1, f2, f3, f4, f5, f6, f7, f8⟩ | ⟨hall, -⟩
              case inr => exact absurd (hall 0 (by decide)) (by rw [hd]; decide)
              skip
              have HF : Hid _ := (And.intro hl (And.intro hB (And.intro f0 (And.intro f1 (And.intro f2 (And.intro f3 (And.intro f4 (And.intro f5 (And.intro f6 (And.intro f7 f8))))))))))
              clear f0 f1 f2 f3 f4 f5 f6 f7 f8 hB hdp hl hd
              refine Opn.mk ?_
              dsimp only
              go_simp
              obtain ⟨hl, hB, f0, f1, f2, f3, f4, f5, f6, f7, f8⟩ := HF.out
              exact hK.out (.pointer (some ⟨B5, 0, none⟩), x21, x22, x23, x24, x25, x26, x27, x28) _ (.inl ⟨by rw [upd_no (by decide)]; exact hl, hB.trans (Below.mono (Below.refl w'.heap.size w') hB.size), (fun _ => fun _ _ => rfl), (fun h1 => by first | exact (f1 (upd_ne h1 (by decide))).up (Below.refl w'.heap.size w') | exact fun _ _ => rfl), (fun h2 => by first | exact (f2 (upd_ne h2 (by decide))).up (Below.refl w'.heap.size w') | exact fun _ _ => rfl), (fun h3 => by first | exact (f3 (upd_ne h3 (by decide))).up (Below.refl w'.heap.size w') | exact fun _ _ => rfl), (fun h4 => by first | exact (f4 (upd_ne h4 (by decide))).up (Below.refl w'.heap.size w') | exact fun _ _ => rfl), (fun h5 => by first | exact (f5 (upd_ne h5 (by decide))).up (Below.refl w'.heap.size w') | exact fun _ _ => rfl), (fun h6 => by first | exact (f6 (upd_ne h6 (by decide))).up (Below.refl w'.heap.size w') | exact fun _ _ => rfl), (fun h7 => by first | exact (f7 (upd_ne h7 (by decide))).up (Below.refl w'.heap.size w') | exact fun _ _ => rfl), (fun h8 => by first | exact (f8 (upd_ne h8 (by decide))).up (Below.refl w'.heap.size w') | exact fun _ _ => rfl)⟩)
            · rintro d ⟨x20, x21, x22, x23, x24, x25, x26, x27, x28⟩ w' hI hd hdp K hK
              dsimp only at hI
              rcases hI with ⟨hl, hB, f0, f1, f2, f3, f4, f5, f6, f7, f8⟩ | ⟨hall, -⟩
              case inr => exact absurd (hall 1 (by decide)) (by rw [hd]; decide)
              obtain rfl := (f0 (hdp 0 (by decide +kernel))).now
              obtain ⟨c0, c1, c2, cf⟩ := bx.up hB
              have HF : Hid _ := (And.intro hl (And.intro hB (And.intro f0 (And.intro f1 (And.intro f2 (And.intro f3 (And.intro f4 (And.intro f5 (And.intro f6 (And.intro f7 f8))))))))))
              clear f0 f1 f2 f3 f4 f5 f6 f7 f8 hB hdp hl hd
              refine Opn.mk ?_
              dsimp only
              go_simp
              obtain ⟨hl, hB, f0, f1, f2, f3, f4, f5, f6, f7, f8⟩ := HF.out
              exact hK.out (.pointer (some ⟨B5, 0, none⟩), .int .u64 rn, x22, x23, x24, x25, x26, x27, x28) _ (.inl ⟨by rw [upd_no (by decide)]; exact hl, hB.trans (Below.mono (Below.refl w'.heap.size w') hB.size), (fun h0 => by first | exact (f0 (upd_ne h0 (by decide))).up (Below.refl w'.heap.size w') | exact fun _ _ => rfl), (fun _ => fun _ _ => rfl), (fun h2 => by first | exact (f2 (upd_ne h2 (by decide))).up (Below.refl w'.heap.size w') | exact fun _ _ => rfl), (fun h3 => by first | exact (f3 (upd_ne h3 (by decide))).up (Below.refl w'.heap.size w') | exact fun _ _ => rfl), (fun h4 => by first | exact (f4 (upd_ne h4 (by decide))).up (Below.refl w'.heap.size w') | exact fun _ _ => rfl), (fun h5 => by first | exact (f5 (upd_ne h5 (by decide))).up (Below.refl w'.heap.size w') | exact fun _ _ => rfl), (fun h6 => by first | exact (f6 (upd_ne h6 (by decide))).up (Below.refl w'.heap.size w') | exact fun _ _ => rfl), (fun h7 => by first | exact (f7 (upd_ne h7 (by decide))).up (Below.refl w'.heap.size w') | exact fun _ _ => rfl), (fun h8 => by first | exact (f8 (upd_ne h8 (by decide))).up (Below.refl w'.heap.size w') | exact fun _ _ => rfl)⟩)
            · rintro d ⟨x20, x21, x22, x23, x24, x25, x26, x27, x28⟩ w' hI hd hdp K hK
              dsimp only at hI
              rcases hI with ⟨hl, hB, f0, f1, f2, f3, f4, f5, f6, f7, f8⟩ | ⟨hall, -⟩
              case inr => exact absurd (hall 2 (by decide)) (by rw [hd]; decide)
              skip
              have HF : Hid _ := (And.intro hl (And.intro hB (And.intro f0 (And.intro f1 (And.intro f2 (And.intro f3 (And.intro f4 (And.intro f5 (And.intro f6 (And.intro f7 f8))))))))))
              clear f0 f1 f2 f3 f4 f5 f6 f7 f8 hB hdp hl hd
              refine Opn.mk ?_
              dsimp only
              go_simp
              obtain ⟨hl, hB, f0, f1, f2, f3, f4, f5, f6, f7, f8⟩ := HF.out
              exact hK.out (x20, x21, .slice (some ⟨b, off, none⟩) n cap, x23, x24, x25, x26, x27, x28) _ (.inl ⟨by rw [upd_no (by decide)]; exact hl, hB.trans (Below.mono (Below.refl w'.heap.size w') hB.size), (fun h0 => by first | exact (f0 (upd_ne h0 (by decide))).up (Below.refl w'.heap.size w') | exact fun _ _ => rfl), (fun h1 => by first | exact (f1 (upd_ne h1 (by decide))).up (Below.refl w'.heap.size w') | exact fun _ _ => rfl), (fun _ => fun _ _ => rfl), (fun h3 => by first | exact (f3 (upd_ne h3 (by decide))).up (Below.refl w'.heap.size w') | exact fun _ _ => rfl), (fun h4 => by first | exact (f4 (upd_ne h4 (by decide))).up (Below.refl w'.heap.size w') | exact fun _ _ => rfl), (fun h5 => by first | exact (f5 (upd_ne h5 (by decide))).up (Below.refl w'.heap.size w') | exact fun _ _ => rfl), (fun h6 => by first | exact (f6 (upd_ne h6 (by decide))).up (Below.refl w'.heap.size w') | exact fun _ _ => rfl), (fun h7 => by first | exact (f7 (upd_ne h7 (by decide))).up (Below.refl w'.heap.size w') | exact fun _ _ => rfl), (fun h8 => by first | exact (f8 (upd_ne h8 (by decide))).up (Below.refl w'.heap.size w') | exact fun _ _ => rfl)⟩)
            · rintro d ⟨x20, x21, x22, x23, x24, x25, x26, x27, x28⟩ w' hI hd hdp K hK
              dsimp only at hI
              rcases hI with ⟨hl, hB, f0, f1, f2, f3, f4, f5, f6, f7, f8⟩ | ⟨hall, -⟩
              case inr => exact absurd (hall 3 (by decide)) (by rw [hd]; decide)
              skip
              have HF : Hid _ := (And.intro hl (And.intro hB (And.intro f0 (And.intro f1 (And.intro f2 (And.intro f3 (And.intro f4 (And.intro f5 (And.intro f6 (And.intro f7 f8))))))))))
              clear f0 f1 f2 f3 f4 f5 f6 f7 f8 hB hdp hl hd
              refine Opn.mk ?_
              dsimp only
              go_simp
              obtain ⟨hl, hB, f0, f1, f2, f3, f4, f5, f6, f7, f8⟩ := HF.out
              exact hK.out (x20, x21, x22, .int .i64 (i : Int), x24, x25, x26, x27, x28) _ (.inl ⟨by rw [upd_no (by decide)]; exact hl, hB.trans (Below.mono (Below.refl w'.heap.size w') hB.size), (fun h0 => by first | exact (f0 (upd_ne h0 (by decide))).up (Below.refl w'.heap.size w') | exact fun _ _ => rfl), (fun h1 => by first | exact (f1 (upd_ne h1 (by decide))).up (Below.refl w'.heap.size w') | exact fun _ _ => rfl), (fun h2 => by first | exact (f2 (upd_ne h2 (by decide))).up (Below.refl w'.heap.size w') | exact fun _ _ => rfl), (fun _ => fun _ _ => rfl), (fun h4 => by first | exact (f4 (upd_ne h4 (by decide))).up (Below.refl w'.heap.size w') | exact fun _ _ => rfl), (fun h5 => by first | exact (f5 (upd_ne h5 (by decide))).up (Below.refl w'.heap.size w') | exact fun _ _ => rfl), (fun h6 => by first | exact (f6 (upd_ne h6 (by decide))).up (Below.refl w'.heap.size w') | exact fun _ _ => rfl), (fun h7 => by first | exact (f7 (upd_ne h7 (by decide))).up (Below.refl w'.heap.size w') | exact fun _ _ => rfl), (fun h8 => by first | exact (f8 (upd_ne h8 (by decide))).up (Below.refl w'.heap.size w') | exact fun _ _ => rfl)⟩)
            · rintro d ⟨x20, x21, x22, x23, x24, x25, x26, x27, x28⟩ w' hI hd hdp K hK
              dsimp only at hI
              rcases hI with ⟨hl, hB, f0, f1, f2, f3, f4, f5, f6, f7, f8⟩ | ⟨hall, -⟩
              case inr => exact absurd (hall 4 (by decide)) (by rw [hd]; decide)
              obtain rfl := (f2 (hdp 2 (by decide +kernel))).now
              obtain rfl := (f3 (hdp 3 (by decide +kernel))).now
              have HF : Hid _ := (And.intro hl (And.intro hB (And.intro f0 (And.intro f1 (And.intro f2 (And.intro f3 (And.intro f4 (And.intro f5 (And.intro f6 (And.intro f7 f8))))))))))
              clear f0 f1 f2 f3 f4 f5 f6 f7 f8 hB hdp hl hd
              refine Opn.mk ?_
              dsimp only
              go_simp
              obtain ⟨hl, hB, f0, f1, f2, f3, f4, f5, f6, f7, f8⟩ := HF.out
              exact hK.out (x20, x21, .slice (some ⟨b, off, none⟩) n cap, .int .i64 (i : Int), .pointer (some ⟨b, off + i * 4, none⟩), x25, x26, x27, x28) _ (.inl ⟨by rw [upd_no (by decide)]; exact hl, hB.trans (Below.mono (Below.refl w'.heap.size w') hB.size), (fun h0 => by first | exact (f0 (upd_ne h0 (by decide))).up (Below.refl w'.heap.size w') | exact fun _ _ => rfl), (fun h1 => by first | exact (f1 (upd_ne h1 (by decide))).up (Below.refl w'.heap.size w') | exact fun _ _ => rfl), (fun h2 => by first | exact (f2 (upd_ne h2 (by decide))).up (Below.refl w'.heap.size w') | exact fun _ _ => rfl), (fun h3 => by first | exact (f3 (upd_ne h3 (by decide))).up (Below.refl w'.heap.size w') | exact fun _ _ => rfl), (fun _ => fun _ _ => rfl), (fun h5 => by first | exact (f5 (upd_ne h5 (by decide))).up (Below.refl w'.heap.size w') | exact fun _ _ => rfl), (fun h6 => by first | exact (f6 (upd_ne h6 (by decide))).up (Below.refl w'.heap.size w') | exact fun _ _ => rfl), (fun h7 => by first | exact (f7 (upd_ne h7 (by decide))).up (Below.refl w'.heap.size w') | exact fun _ _ => rfl), (fun h8 => by first | exact (f8 (upd_ne h8 (by decide))).up (Below.refl w'.heap.size w') | exact fun _ _ => rfl)⟩)
            · rintro d ⟨x20, x21, x22, x23, x24, x25, x26, x27, x28⟩ w' hI hd hdp K hK
              dsimp only at hI
              rcases hI with ⟨hl, hB, f0, f1, f2, f3, f4, f5, f6, f7, f8⟩ | ⟨hall, -⟩
              case inr => exact absurd (hall 5 (by decide)) (by rw [hd]; decide)
              obtain rfl := (f4 (hdp 4 (by decide +kernel))).now
              have HF : Hid _ := (And.intro hl (And.intro hB (And.intro f0 (And.intro f1 (And.intro f2 (And.intro f3 (And.intro f4 (And.intro f5 (And.intro f6 (And.intro f7 f8))))))))))
              clear f0 f1 f2 f3 f4 f5 f6 f7 f8 hB hdp hl hd
              refine Opn.mk ?_
              dsimp only
              go_simp
              obtain ⟨hl, hB, f0, f1, f2, f3, f4, f5, f6, f7, f8⟩ := HF.out
              exact hK.out (x20, x21, x22, x23, .pointer (some ⟨b, off + i * 4, none⟩), .pointer (some ⟨b, off + i * 4 + 3, none⟩), x26, x27, x28) _ (.inl ⟨by rw [upd_no (by decide)]; exact hl, hB.trans (Below.mono (Below.refl w'.heap.size w') hB.size), (fun h0 => by first | exact (f0 (upd_ne h0 (by decide))).up (Below.refl w'.heap.size w') | exact fun _ _ => rfl), (fun h1 => by first | exact (f1 (upd_ne h1 (by decide))).up (Below.refl w'.heap.size w') | exact fun _ _ => rfl), (fun h2 => by first | exact (f2 (upd_ne h2 (by decide))).up (Below.refl w'.heap.size w') | exact fun _ _ => rfl), (fun h3 => by first | exact (f3 (upd_ne h3 (by decide))).up (Below.refl w'.heap.size w') | exact fun _ _ => rfl), (fun h4 => by first | exact (f4 (upd_ne h4 (by decide))).up (Below.refl w'.heap.size w') | exact fun _ _ => rfl), (fun _ => fun _ _ => rfl), (fun h6 => by first | exact (f6 (upd_ne h6 (by decide))).up (Below.refl w'.heap.size w') | exact fun _ _ => rfl), (fun h7 => by first | exact (f7 (upd_ne h7 (by decide))).up (Below.refl w'.heap.size w') | exact fun _ _ => rfl), (fun h8 => by first | exact (f8 (upd_ne h8 (by decide))).up (Below.refl w'.heap.size w') | exact fun _ _ => rfl)⟩)
            · rintro d ⟨x20, x21, x22, x23, x24, x25, x26, x27, x28⟩ w' hI hd hdp K hK
              dsimp only at hI
              rcases hI with ⟨hl, hB, f0, f1, f2, f3, f4, f5, f6, f7, f8⟩ | ⟨hall, -⟩
              case inr => exact absurd (hall 6 (by decide)) (by rw [hd]; decide)
              obtain rfl := (f5 (hdp 5 (by decide +kernel))).now
              have c0 := cell_up hB t3
              have HF : Hid _ := (And.intro hl (And.intro hB (And.intro f0 (And.intro f1 (And.intro f2 (And.intro f3 (And.intro f4 (And.intro f5 (And.intro f6 (And.intro f7 f8))))))))))
              clear f0 f1 f2 f3 f4 f5 f6 f7 f8 hB hdp hl hd
              refine Opn.mk ?_
              dsimp only
              go_simp
              obtain ⟨hl, hB, f0, f1, f2, f3, f4, f5, f6, f7, f8⟩ := HF.out
              exact hK.out (x20, x21, x22, x23, x24, .pointer (some ⟨b, off + i * 4 + 3, none⟩), .int .u64 (nn : Int), x27, x28) _ (.inl ⟨by rw [upd_no (by decide)]; exact hl, hB.trans (Below.mono (Below.refl w'.heap.size w') hB.size), (fun h0 => by first | exact (f0 (upd_ne h0 (by decide))).up (Below.refl w'.heap.size w') | exact fun _ _ => rfl), (fun h1 => by first | exact (f1 (upd_ne h1 (by decide))).up (Below.refl w'.heap.size w') | exact fun _ _ => rfl), (fun h2 => by first | exact (f2 (upd_ne h2 (by decide))).up (Below.refl w'.heap.size w') | exact fun _ _ => rfl), (fun h3 => by first | exact (f3 (upd_ne h3 (by decide))).up (Below.refl w'.heap.size w') | exact fun _ _ => rfl), (fun h4 => by first | exact (f4 (upd_ne h4 (by decide))).up (Below.refl w'.heap.size w') | exact fun _ _ => rfl), (fun h5 => by first | exact (f5 (upd_ne h5 (by decide))).up (Below.refl w'.heap.size w') | exact fun _ _ => rfl), (fun _ => fun _ _ => rfl), (fun h7 => by first | exact (f7 (upd_ne h7 (by decide))).up (Below.refl w'.heap.size w') | exact fun _ _ => rfl), (fun h8 => by first | exact (f8 (upd_ne h8 (by decide))).up (Below.refl w'.heap.size w') | exact fun _ _ => rfl)⟩)
            · rintro d ⟨x20, x21, x22, x23, x24, x25, x26, x27, x28⟩ w' hI hd hdp K hK
              dsimp only at hI
              rcases hI with ⟨hl, hB, f0, f1, f2, f3, f4, f5, f6, f7, f8⟩ | ⟨hall, -⟩
              case inr => exact absurd (hall 7 (by decide)) (by rw [hd]; decide)
              obtain rfl := (f1 (hdp 1 (by decide +kernel))).now
              obtain rfl := (f6 (hdp 6 (by decide +kernel))).now
              have HF : Hid _ := (And.intro hl (And.intro hB (And.intro f0 (And.intro f1 (And.intro f2 (And.intro f3 (And.intro f4 (And.intro f5 (And.intro f6 (And.intro f7 f8))))))))))
              clear f0 f1 f2 f3 f4 f5 f6 f7 f8 hB hdp hl hd
              refine Opn.mk ?_
              dsimp only
              go_simp
              obtain ⟨hl, hB, f0, f1, f2, f3, f4, f5, f6, f7, f8⟩ := HF.out
              exact hK.out (x20, .int .u64 rn, x22, x23, x24, x25, .int .u64 (nn : Int), .int .u64 (IntKind.u64.wrap (rn + (nn : Int))), x28) _ (.inl ⟨by rw [upd_no (by decide)]; exact hl, hB.trans (Below.mono (Below.refl w'.heap.size w') hB.size), (fun h0 => by first | exact (f0 (upd_ne h0 (by decide))).up (Below.refl w'.heap.size w') | exact fun _ _ => rfl), (fun h1 => by first | exact (f1 (upd_ne h1 (by decide))).up (Below.refl w'.heap.size w') | exact fun _ _ => rfl), (fun h2 => by first | exact (f2 (upd_ne h2 (by decide))).up (Below.refl w'.heap.size w') | exact fun _ _ => rfl), (fun h3 => by first | exact (f3 (upd_ne h3 (by decide))).up (Below.refl w'.heap.size w') | exact fun _ _ => rfl), (fun h4 => by first | exact (f4 (upd_ne h4 (by decide))).up (Below.refl w'.heap.size w') | exact fun _ _ => rfl), (fun h5 => by first | exact (f5 (upd_ne h5 (by decide))).up (Below.refl w'.heap.size w') | exact fun _ _ => rfl), (fun h6 => by first | exact (f6 (upd_ne h6 (by decide))).up (Below.refl w'.heap.size w') | exact fun _ _ => rfl), (fun _ => fun _ _ => rfl), (fun h8 => by first | exact (f8 (upd_ne h8 (by decide))).up (Below.refl w'.heap.size w') | exact fun _ _ => rfl)⟩)
            · rintro d ⟨x20, x21, x22, x23, x24, x25, x26, x27, x28⟩ w' hI hd hdp K hK
              dsimp only at hI
              rcases hI with ⟨hl, hB, f0, f1, f2, f3, f4, f5, f6, f7, f8⟩ | ⟨hall, -⟩
              case inr => exact absurd (hall 8 (by decide)) (by rw [hd]; decide)
              skip
              have HF : Hid _ := (And.intro hl (And.intro hB (And.intro f0 (And.intro f1 (And.intro f2 (And.intro f3 (And.intro f4 (And.intro f5 (And.intro f6 (And.intro f7 f8))))))))))
              clear f0 f1 f2 f3 f4 f5 f6 f7 f8 hB hdp hl hd
              refine Opn.mk ?_
              dsimp only
              go_simp
              obtain ⟨hl, hB, f0, f1, f2, f3, f4, f5, f6, f7, f8⟩ := HF.out
              exact hK.out (x20, x21, x22, x23, x24, x25, x26, x27, .pointer (some ⟨B5, 0, none⟩)) _ (.inl ⟨by rw [upd_no (by decide)]; exact hl, hB.trans (Below.mono (Below.refl w'.heap.size w') hB.size), (fun h0 => by first | exact (f0 (upd_ne h0 (by decide))).up (Below.refl w'.heap.size w') | exact fun _ _ => rfl), (fun h1 => by first | exact (f1 (upd_ne h1 (by decide))).up (Below.refl w'.heap.size w') | exact fun _ _ => rfl), (fun h2 => by first | exact (f2 (upd_ne h2 (by decide))).up (Below.refl w'.heap.size w') | exact fun _ _ => rfl), (fun h3 => by first | exact (f3 (upd_ne h3 (by decide))).up (Below.refl w'.heap.size w') | exact fun _ _ => rfl), (fun h4 => by first | exact (f4 (upd_ne h4 (by decide))).up (Below.refl w'.heap.size w') | exact fun _ _ => rfl), (fun h5 => by first | exact (f5 (upd_ne h5 (by decide))).up (Below.refl w'.heap.size w') | exact fun _ _ => rfl), (fun h6 => by first | exact (f6 (upd_ne h6 (by decide))).up (Below.refl w'.heap.size w') | exact fun _ _ => rfl), (fun h7 => by first | exact (f7 (upd_ne h7 (by decide))).up (Below.refl w'.heap.size w') | exact fun _ _ => rfl), (fun _ => fun _ _ => rfl)⟩)
            · rintro d ⟨x20, x21, x22, x23, x24, x25, x26, x27, x28⟩ w' hI hd hdp K hK
              dsimp only at hI
              rcases hI with ⟨hl, hB, f0, f1, f2, f3, f4, f5, f6, f7, f8⟩ | ⟨hall, -⟩
              case inr => exact absurd (hall 9 (by decide)) (by rw [hd]; decide)
              have hall : ∀ j, j < 10 → upd d 9 j = true := fun j hj => by
                rcases (by omega : j = 0 ∨ j = 1 ∨ j = 2 ∨ j = 3 ∨ j = 4 ∨ j = 5 ∨ j = 6 ∨ j = 7 ∨ j = 8 ∨ j = 9) with rfl | rfl | rfl | rfl | rfl | rfl | rfl | rfl | rfl | rfl
                all_goals first | rfl | (rw [upd_no (by decide)]; exact hdp _ (by decide +kernel))
              obtain rfl := (f8 (hdp 8 (by decide +kernel))).now
              obtain rfl := (f7 (hdp 7 (by decide +kernel))).now
              obtain ⟨c0, c1, c2, cf⟩ := bx.up hB
              have HH : Hid _ := hall
              clear hall
              have HF : Hid _ := (And.intro hl (And.intro hB (And.intro f0 (And.intro f1 (And.intro f2 (And.intro f3 (And.intro f4 (And.intro f5 (And.intro f6 (And.intro f7 f8))))))))))
              clear f0 f1 f2 f3 f4 f5 f6 f7 f8 hB hdp hl hd
              refine Opn.mk ?_
              dsimp only
              go_simp
              obtain ⟨hl, hB, f0, f1, f2, f3, f4, f5, f6, f7, f8⟩ := HF.out
              exact hK.out (x20, x21, x22, x23, x24, x25, x26, .int .u64 (IntKind.u64.wrap (rn + (nn : Int))), .pointer (some ⟨B5, 0, none⟩)) _ (.inr ⟨HH.out, w', hB, rfl⟩)
          case he20 =>
            rintro d ⟨x20, x21, x22, x23, x24, x25, x26, x27, x28⟩ w' hall hI
            dsimp only at hI
            rcases hI with ⟨hl, -⟩ | ⟨-, X, bX, hX⟩
            · exact absurd (hall 9 (by decide)) (by rw [hl]; decide)
            have HB7 : Hid (Box3 w' B5 (.int .u64 (IntKind.u64.wrap (rn + (nn : Int)))) (.int .i64 rv) (.slice ra rl rc) ∧ Pt.Ok w' ⟨rn, rv, .slice ra rl rc, rts⟩ ∧ Below W1.heap.size W1 w') := by
              have hx := bx.up bX
              refine ⟨?_, ?_, ?_⟩
              · rw [hX]
                exact ⟨World.cell?_setCell_same _ _ _ hx.c0, by rw [World.cell?_setCell_other _ _ _ _ (by simp)]; exact hx.c1, by rw [World.cell?_setCell_other _ _ _ _ (by simp)]; exact hx.c2, fun c => by simpa using hx.fr c⟩
              · rw [hX]; exact (HOK.out.1.up bX).off HOK.out.2.1 (Nat.lt_succ_self _) _
              · rw [hX]; exact (HOK.out.2.2.trans (bX.mono HOK.out.2.2.size)).setCell (p := ⟨B5, 0, none⟩) HB5.out _
            clear hall hX bX
            dsimp only
            go_wp2_with fail
            go_meet
            case rel => exact ⟨rfl, HB7⟩
        case rest =>
          rename World => wB
          obtain ⟨rfl, HB7⟩ := hcut
          have mv : ∀ (g o : Nat) (u : Value), g < W1.heap.size → wr.cell? ⟨g, o, none⟩ = some u → wB.cell? ⟨g, o, none⟩ = some u := fun g o u hg hc => by
            rw [HB7.out.2.2.cell (p := ⟨g, o, none⟩) hg, ← HOK.out.2.2.cell (p := ⟨g, o, none⟩) hg]; exact hc
          replace t1 := mv _ _ _ HLT.out.1 t1
          replace t2 := mv _ _ _ HLT.out.1 t2
          replace t3 := mv _ _ _ HLT.out.1 t3
          replace q0 := mv _ _ _ HLT.out.2.2.2 q0
          replace q1 := mv _ _ _ HLT.out.2.2.2 q1
          replace td := mv _ _ _ HLT.out.2.1 td
          replace tm := mv _ _ _ HLT.out.2.2.1 tm
          replace bx := HB7.out.1
          have stV : Aside (∀ (u : Int) (X w' : World), Below wB.heap.size wB X → w' = X.setCell ⟨B5, 1, none⟩ (.int .i64 u) → (l.take (i + 1)).foldl (rstep k (cc : Int)) U0 = (IntKind.u64.wrap (rn + (nn : Int)), u, rts) → ∃ r : Pt, Box3 w' B5 (.int .u64 r.n) (.int .i64 r.v) r.tv ∧ r.Ok w' ∧ r.p0 = (l.take (i + 1)).foldl (rstep k (cc : Int)) U0 ∧ New (B5 + 1) r.tv ∧ Below W1.heap.size W1 w') := fun u X w' bX hX hf => by
            refine ⟨⟨IntKind.u64.wrap (rn + (nn : Int)), u, .slice ra rl rc, rts⟩, box_v HB7.out.1 bX hX, ?_, hf.symm, HOK.out.2.1, ?_⟩
            · rw [hX]; exact ⟨((HB7.out.2.1.up bX).off HOK.out.2.1 (Nat.lt_succ_self _) _).rt⟩
            · rw [hX]; exact (HB7.out.2.2.trans (bX.mono HB7.out.2.2.size)).setCell (p := ⟨B5, 1, none⟩) HB5.out _
          have stN : Aside (∀ (X : World), Below wB.heap.size wB X → (l.take (i + 1)).foldl (rstep k (cc : Int)) U0 = (IntKind.u64.wrap (rn + (nn : Int)), rv, rts) → ∃ r : Pt, Box3 X B5 (.int .u64 r.n) (.int .i64 r.v) r.tv ∧ r.Ok X ∧ r.p0 = (l.take (i + 1)).foldl (rstep k (cc : Int)) U0 ∧ New (B5 + 1) r.tv ∧ Below W1.heap.size W1 X) := fun X bX hf =>
            ⟨⟨IntKind.u64.wrap (rn + (nn : Int)), rv, .slice ra rl rc, rts⟩, HB7.out.1.up bX, ⟨(HB7.out.2.1.up bX).rt⟩, hf.symm, HOK.out.2.1, HB7.out.2.2.trans (bX.mono HB7.out.2.2.size)⟩
          have kPut : Aside (∀ X, Below wB.heap.size wB X → Calls Try.prog 28 #[.slice ra rl rc, .string ⟨tx.toArray⟩] X fun e w' => ∃ v', e = .returned v' ∧ w'.ownsRow X.heap.size 9 1 v' (putT rts tx).length (sv (putT rts tx)) ∧ Below X.heap.size X w') := fun X bX => refput_any X _ rts tx (HB7.out.2.1.up bX).rt (by omega)
          clear mv
          by_cases hk2 : k = 2
          · have hk2b : (k == 2) = true := by simp [hk2]
            have HK2 : Hid (k = 2) := hk2
            clear hk2 kPut stN _hk15
            go_wp2_with fail
            refine wp_region_invF (β := Value × Value × Value × Value × Value × Value × Value × Value × Value × Value × Value × Value × Value × Value × Value × Value × Value × Value × Value × Value × Value) (fun a0 xq => (((((((((((((((((((((a0.put (some 33) (xq.1)).put (some 34) (xq.2.1)).put (some 35) (xq.2.2.1)).put (some 36) (xq.2.2.2.1)).put (some 37) (xq.2.2.2.2.1)).put (some 38) (xq.2.2.2.2.2.1)).put (some 39) (xq.2.2.2.2.2.2.1)).put (some 40) (xq.2.2.2.2.2.2.2.1)).put (some 41) (xq.2.2.2.2.2.2.2.2.1)).put (some 42) (xq.2.2.2.2.2.2.2.2.2.1)).put (some 43) (xq.2.2.2.2.2.2.2.2.2.2.1)).put (some 44) (xq.2.2.2.2.2.2.2.2.2.2.2.1)).put (some 45) (xq.2.2.2.2.2.2.2.2.2.2.2.2.1)).put (some 46) (xq.2.2.2.2.2.2.2.2.2.2.2.2.2.1)).put (some 47) (xq.2.2.2.2.2.2.2.2.2.2.2.2.2.2.1)).put (some 48) (xq.2.2.2.2.2.2.2.2.2.2.2.2.2.2.2.1)).put (some 49) (xq.2.2.2.2.2.2.2.2.2.2.2.2.2.2.2.2.1)).put (some 50) (xq.2.2.2.2.2.2.2.2.2.2.2.2.2.2.2.2.2.1)).put (some 51) (xq.2.2.2.2.2.2.2.2.2.2.2.2.2.2.2.2.2.2.1)).put (some 52) (xq.2.2.2.2.2.2.2.2.2.2.2.2.2.2.2.2.2.2.2.1)).put (some 53) (xq.2.2.2.2.2.2.2.2.2.2.2.2.2.2.2.2.2.2.2.2))) ?fr33 (fun xq d w' => ((d 21 = false ∧ Below wB.heap.size wB w' ∧ (d 0 = true → Evr w' (fun _ => (xq.1) = .pointer (some ⟨B5, 1, none⟩))) ∧ (d 1 = true → Evr w' (fun _ => (xq.2.1) = .int .i64 rv)) ∧ (d 2 = true → Evr w' (fun _ => (xq.2.2.1) = .slice (some ⟨b, off, none⟩) n cap)) ∧ (d 3 = true → Evr w' (fun _ => (xq.2.2.2.1) = .int .i64 (i : Int))) ∧ (d 4 = true → Evr w' (fun _ => (xq.2.2.2.2.1) = .pointer (some ⟨b, off + i * 4, none⟩))) ∧ (d 5 = true → Evr w' (fun _ => (xq.2.2.2.2.2.1) = .pointer (some ⟨b, off + i * 4, none⟩))) ∧ (d 6 = true → Evr w' (fun _ => (xq.2.2.2.2.2.2.1) = .pointer (some ⟨b, off + i * 4 + 2, none⟩))) ∧ (d 7 = true → Evr w' (fun _ => (xq.2.2.2.2.2.2.2.1) = .slice (some ⟨bm, om, none⟩) 2 cm)) ∧ (d 8 = true → Evr w' (fun _ => (xq.2.2.2.2.2.2.2.2.1) = .pointer (some ⟨w.heap.size, 1, none⟩))) ∧ (d 9 = true → Evr w' (fun _ => (xq.2.2.2.2.2.2.2.2.2.1) = .int .i64 (cc : Int))) ∧ (d 10 = true → Evr w' (fun _ => (xq.2.2.2.2.2.2.2.2.2.2.1) = .pointer (some ⟨bm, om + cc, none⟩))) ∧ (d 11 = true → Evr w' (fun _ => (xq.2.2.2.2.2.2.2.2.2.2.2.1) = .int .i64 mm)) ∧ (d 12 = true → Evr w' (fun _ => (xq.2.2.2.2.2.2.2.2.2.2.2.2.1) = .slice (some ⟨b, off, none⟩) n cap)) ∧ (d 13 = true → Evr w' (fun _ => (xq.2.2.2.2.2.2.2.2.2.2.2.2.2.1) = .int .i64 (i : Int))) ∧ (d 14 = true → Evr w' (fun _ => (xq.2.2.2.2.2.2.2.2.2.2.2.2.2.2.1) = .pointer (some ⟨b, off + i * 4, none⟩))) ∧ (d 15 = true → Evr w' (fun _ => (xq.2.2.2.2.2.2.2.2.2.2.2.2.2.2.2.1) = .pointer (some ⟨b, off + i * 4 + 3, none⟩))) ∧ (d 16 = true → Evr w' (fun _ => (xq.2.2.2.2.2.2.2.2.2.2.2.2.2.2.2.2.1) = .int .u64 (nn : Int))) ∧ (d 17 = true → Evr w' (fun _ => (xq.2.2.2.2.2.2.2.2.2.2.2.2.2.2.2.2.2.1) = .int .i64 (IntKind.i64.wrap (nn : Int)))) ∧ (d 18 = true → Evr w' (fun _ => (xq.2.2.2.2.2.2.2.2.2.2.2.2.2.2.2.2.2.2.1) = .int .i64 (IntKind.i64.wrap (mm * IntKind.i64.wrap (nn : Int))))) ∧ (d 19 = true → Evr w' (fun _ => (xq.2.2.2.2.2.2.2.2.2.2.2.2.2.2.2.2.2.2.2.1) = .int .i64 (IntKind.i64.wrap (rv + IntKind.i64.wrap (mm * IntKind.i64.wrap (nn : Int)))))) ∧ (d 20 = true → Evr w' (fun _ => (xq.2.2.2.2.2.2.2.2.2.2.2.2.2.2.2.2.2.2.2.2) = .pointer (some ⟨B5, 1, none⟩)))) ∨ ((∀ j, j < 22 → d j = true) ∧ ∃ X, Below wB.heap.size wB X ∧ w' = X.setCell ⟨B5, 1, none⟩ (.int .i64 (IntKind.i64.wrap (rv + IntKind.i64.wrap (mm * IntKind.i64.wrap (nn : Int)))))))) ?lay33 mixed (by kernel_rfl) ?h033 ?hs33 ?he33
            case lay33 =>
              intro xq
              simp only [Act.put, List.setIfInBounds_toArray, List.set_cons_zero, List.set_cons_succ]
              rfl
            case h033 => exact ⟨(u33, u34, u35, u36, u37, u38, u39, u40, u41, u42, u43, u44, u45, u46, u47, u48, u49, u50, u51, u52, u53), rfl, .inl ⟨rfl, below_dN (Below.refl _ _) 1, (fun h => by cases h), (fun h => by cases h), (fun h => by cases h), (fun h => by cases h), (fun h => by cases h), (fun h => by cases h), (fun h => by cases h), (fun h => by cases h), (fun h => by cases h), (fun h => by cases h), (fun h => by cases h), (fun h => by cases h), (fun h => by cases h), (fun h => by cases h), (fun h => by cases h), (fun h => by cases h), (fun h => by cases h), (fun h => by cases h), (fun h => by cases h), (fun h => by cases h), (fun h => by cases h)⟩⟩
            case hs33 =>
              refine ⟨?_, ?_, ?_, ?_, ?_, ?_, ?_, ?_, ?_, ?_, ?_, ?_, ?_, ?_, ?_, ?_, ?_, ?_, ?_, ?_, ?_, ?_, trivial⟩
              · rintro d ⟨x33, x34, x35, x36, x37, x38, x39, x40, x41, x42, x43, x44, x45, x46, x47, x48, x49, x50, x51, x52, x53⟩ w' hI hd hdp K hK
                dsimp only at hI
                rcases hI with ⟨hl, hB, f0, f1, f2, f3, f4, f5, f6, f7, f8, f9, f10, f11, f12, f13, f14, f15, f16, f17, f18, f19, f20⟩ | ⟨hall, -⟩
                case inr => exact absurd (hall 0 (by decide)) (by rw [hd]; decide)
                skip
                have HF : Hid _ := (And.intro hl (And.intro hB (And.intro f0 (And.intro f1 (And.intro f2 (And.intro f3 (And.intro f4 (And.intro f5 (And.intro f6 (And.intro f7 (And.intro f8 (And.intro f9 (And.intro f10 (And.intro f11 (And.intro f12 (And.intro f13 (And.intro f14 (And.intro f15 (And.intro f16 (And.intro f17 (And.intro f18 (And.intro f19 f20))))))))))))))))))))))
                clear f0 f1 f2 f3 f4 f5 f6 f7 f8 f9 f10 f11 f12 f13 f14 f15 f16 f17 f18 f19 f20 hB hdp hl hd
                refine Opn.mk ?_
                dsimp only
                go_simp
                obtain ⟨hl, hB, f0, f1, f2, f3, f4, f5, f6, f7, f8, f9, f10, f11, f12, f13, f14, f15, f16, f17, f18, f19, f20⟩ := HF.out
                exact hK.out (.pointer (some ⟨B5, 1, none⟩), x34, x35, x36, x37, x38, x39, x40, x41, x42, x43, x44, x45, x46, x47, x48, x49, x50, x51, x52, x53) _ (.inl ⟨by rw [upd_no (by decide)]; exact hl, hB.trans (Below.mono (Below.refl w'.heap.size w') hB.size), (fun _ => fun _ _ => rfl), (fun h1 => by first | exact (f1 (upd_ne h1 (by decide))).up (Below.refl w'.heap.size w') | exact fun _ _ => rfl), (fun h2 => by first | exact (f2 (upd_ne h2 (by decide))).up (Below.refl w'.heap.size w') | exact fun _ _ => rfl), (fun h3 => by first | exact (f3 (upd_ne h3 (by decide))).up (Below.refl w'.heap.size w') | exact fun _ _ => rfl), (fun h4 => by first | exact (f4 (upd_ne h4 (by decide))).up (Below.refl w'.heap.size w') | exact fun _ _ => rfl), (fun h5 => by first | exact (f5 (upd_ne h5 (by decide))).up (Below.refl w'.heap.size w') | exact fun _ _ => rfl), (fun h6 => by first | exact (f6 (upd_ne h6 (by decide))).up (Below.refl w'.heap.size w') | exact fun _ _ => rfl), (fun h7 => by first | exact (f7 (upd_ne h7 (by decide))).up (Below.refl w'.heap.size w') | exact fun _ _ => rfl), (fun h8 => by first | exact (f8 (upd_ne h8 (by decide))).up (Below.refl w'.heap.size w') | exact fun _ _ => rfl), (fun h9 => by first | exact (f9 (upd_ne h9 (by decide))).up (Below.refl w'.heap.size w') | exact fun _ _ => rfl), (fun h10 => by first | exact (f10 (upd_ne h10 (by decide))).up (Below.refl w'.heap.size w') | exact fun _ _ => rfl), (fun h11 => by first | exact (f11 (upd_ne h11 (by decide))).up (Below.refl w'.heap.size w') | exact fun _ _ => rfl), (fun h12 => by first | exact (f12 (upd_ne h12 (by decide))).up (Below.refl w'.heap.size w') | exact fun _ _ => rfl), (fun h13 => by first | exact (f13 (upd_ne h13 (by decide))).up (Below.refl w'.heap.size w') | exact fun _ _ => rfl), (fun h14 => by first | exact (f14 (upd_ne h14 (by decide))).up (Below.refl w'.heap.size w') | exact fun _ _ => rfl), (fun h15 => by first | exact (f15 (upd_ne h15 (by decide))).up (Below.refl w'.heap.size w') | exact fun _ _ => rfl), (fun h16 => by first | exact (f16 (upd_ne h16 (by decide))).up (Below.refl w'.heap.size w') | exact fun _ _ => rfl), (fun h17 => by first | exact (f17 (upd_ne h17 (by decide))).up (Below.refl w'.heap.size w') | exact fun _ _ => rfl), (fun h18 => by first | exact (f18 (upd_ne h18 (by decide))).up (Below.refl w'.heap.size w') | exact fun _ _ => rfl), (fun h19 => by first | exact (f19 (upd_ne h19 (by decide))).up (Below.refl w'.heap.size w') | exact fun _ _ => rfl), (fun h20 => by first | exact (f20 (upd_ne h20 (by decide))).up (Below.refl w'.heap.size w') | exact fun _ _ => rfl)⟩)
              · rintro d ⟨x33, x34, x35, x36, x37, x38, x39, x40, x41, x42, x43, x44, x45, x46, x47, x48, x49, x50, x51, x52, x53⟩ w' hI hd hdp K hK
                dsimp only at hI
                rcases hI with ⟨hl, hB, f0, f1, f2, f3, f4, f5, f6, f7, f8, f9, f10, f11, f12, f13, f14, f15, f16, f17, f18, f19, f20⟩ | ⟨hall, -⟩
                case inr => exact absurd (hall 1 (by decide)) (by rw [hd]; decide)
                obtain rfl := (f0 (hdp 0 (by decide +kernel))).now
                obtain ⟨c0, c1, c2, cf⟩ := bx.up hB
                have HF : Hid _ := (And.intro hl (And.intro hB (And.intro f0 (And.intro f1 (And.intro f2 (And.intro f3 (And.intro f4 (And.intro f5 (And.intro f6 (And.intro f7 (And.intro f8 (And.intro f9 (And.intro f10 (And.intro f11 (And.intro f12 (And.intro f13 (And.intro f14 (And.intro f15 (And.intro f16 (And.intro f17 (And.intro f18 (And.intro f19 f20))))))))))))))))))))))
                clear f0 f1 f2 f3 f4 f5 f6 f7 f8 f9 f10 f11 f12 f13 f14 f15 f16 f17 f18 f19 f20 hB hdp hl hd
                refine Opn.mk ?_
                dsimp only
                go_simp
                obtain ⟨hl, hB, f0, f1, f2, f3, f4, f5, f6, f7, f8, f9, f10, f11, f12, f13, f14, f15, f16, f17, f18, f19, f20⟩ := HF.out
                exact hK.out (.pointer (some ⟨B5, 1, none⟩), .int .i64 rv, x35, x36, x37, x38, x39, x40, x41, x42, x43, x44, x45, x46, x47, x48, x49, x50, x51, x52, x53) _ (.inl ⟨by rw [upd_no (by decide)]; exact hl, hB.trans (Below.mono (Below.refl w'.heap.size w') hB.size), (fun h0 => by first | exact (f0 (upd_ne h0 (by decide))).up (Below.refl w'.heap.size w') | exact fun _ _ => rfl), (fun _ => fun _ _ => rfl), (fun h2 => by first | exact (f2 (upd_ne h2 (by decide))).up (Below.refl w'.heap.size w') | exact fun _ _ => rfl), (fun h3 => by first | exact (f3 (upd_ne h3 (by decide))).up (Below.refl w'.heap.size w') | exact fun _ _ => rfl), (fun h4 => by first | exact (f4 (upd_ne h4 (by decide))).up (Below.refl w'.heap.size w') | exact fun _ _ => rfl), (fun h5 => by first | exact (f5 (upd_ne h5 (by decide))).up (Below.refl w'.heap.size w') | exact fun _ _ => rfl), (fun h6 => by first | exact (f6 (upd_ne h6 (by decide))).up (Below.refl w'.heap.size w') | exact fun _ _ => rfl), (fun h7 => by first | exact (f7 (upd_ne h7 (by decide))).up (Below.refl w'.heap.size w') | exact fun _ _ => rfl), (fun h8 => by first | exact (f8 (upd_ne h8 (by decide))).up (Below.refl w'.heap.size w') | exact fun _ _ => rfl), (fun h9 => by first | exact (f9 (upd_ne h9 (by decide))).up (Below.refl w'.heap.size w') | exact fun _ _ => rfl), (fun h10 => by first | exact (f10 (upd_ne h10 (by decide))).up (Below.refl w'.heap.size w') | exact fun _ _ => rfl), (fun h11 => by first | exact (f11 (upd_ne h11 (by decide))).up (Below.refl w'.heap.size w') | exact fun _ _ => rfl), (fun h12 => by first | exact (f12 (upd_ne h12 (by decide))).up (Below.refl w'.heap.size w') | exact fun _ _ => rfl), (fun h13 => by first | exact (f13 (upd_ne h13 (by decide))).up (Below.refl w'.heap.size w') | exact fun _ _ => rfl), (fun h14 => by first | exact (f14 (upd_ne h14 (by decide))).up (Below.refl w'.heap.size w') | exact fun _ _ => rfl), (fun h15 => by first | exact (f15 (upd_ne h15 (by decide))).up (Below.refl w'.heap.size w') | exact fun _ _ => rfl), (fun h16 => by first | exact (f16 (upd_ne h16 (by decide))).up (Below.refl w'.heap.size w') | exact fun _ _ => rfl), (fun h17 => by first | exact (f17 (upd_ne h17 (by decide))).up (Below.refl w'.heap.size w') | exact fun _ _ => rfl), (fun h18 => by first | exact (f18 (upd_ne h18 (by decide))).up (Below.refl w'.heap.size w') | exact fun _ _ => rfl), (fun h19 => by first | exact (f19 (upd_ne h19 (by decide))).up (Below.refl w'.heap.size w') | exact fun _ _ => rfl), (fun h20 => by first | exact (f20 (upd_ne h20 (by decide))).up (Below.refl w'.heap.size w') | exact fun _ _ => rfl)⟩)
              · rintro d ⟨x33, x34, x35, x36, x37, x38, x39, x40, x41, x42, x43, x44, x45, x46, x47, x48, x49, x50, x51, x52, x53⟩ w' hI hd hdp K hK
                dsimp only at hI
                rcases hI with ⟨hl, hB, f0, f1, f2, f3, f4, f5, f6, f7, f8, f9, f10, f11, f12, f13, f14, f15, f16, f17, f18, f19, f20⟩ | ⟨hall, -⟩
                case inr => exact absurd (hall 2 (by decide)) (by rw [hd]; decide)
                skip
                have HF : Hid _ := (And.intro hl (And.intro hB (And.intro f0 (And.intro f1 (And.intro f2 (And.intro f3 (And.intro f4 (And.intro f5 (And.intro f6 (And.intro f7 (And.intro f8 (And.intro f9 (And.intro f10 (And.intro f11 (And.intro f12 (And.intro f13 (And.intro f14 (And.intro f15 (And.intro f16 (And.intro f17 (And.intro f18 (And.intro f19 f20))))))))))))))))))))))
                clear f0 f1 f2 f3 f4 f5 f6 f7 f8 f9 f10 f11 f12 f13 f14 f15 f16 f17 f18 f19 f20 hB hdp hl hd
                refine Opn.mk ?_
                dsimp only
                go_simp
                obtain ⟨hl, hB, f0, f1, f2, f3, f4, f5, f6, f7, f8, f9, f10, f11, f12, f13, f14, f15, f16, f17, f18, f19, f20⟩ := HF.out
                exact hK.out (x33, x34, .slice (some ⟨b, off, none⟩) n cap, x36, x37, x38, x39, x40, x41, x42, x43, x44, x45, x46, x47, x48, x49, x50, x51, x52, x53) _ (.inl ⟨by rw [upd_no (by decide)]; exact hl, hB.trans (Below.mono (Below.refl w'.heap.size w') hB.size), (fun h0 => by first | exact (f0 (upd_ne h0 (by decide))).up (Below.refl w'.heap.size w') | exact fun _ _ => rfl), (fun h1 => by first | exact (f1 (upd_ne h1 (by decide))).up (Below.refl w'.heap.size w') | exact fun _ _ => rfl), (fun _ => fun _ _ => rfl), (fun h3 => by first | exact (f3 (upd_ne h3 (by decide))).up (Below.refl w'.heap.size w') | exact fun _ _ => rfl), (fun h4 => by first | exact (f4 (upd_ne h4 (by decide))).up (Below.refl w'.heap.size w') | exact fun _ _ => rfl), (fun h5 => by first | exact (f5 (upd_ne h5 (by decide))).up (Below.refl w'.heap.size w') | exact fun _ _ => rfl), (fun h6 => by first | exact (f6 (upd_ne h6 (by decide))).up (Below.refl w'.heap.size w') | exact fun _ _ => rfl), (fun h7 => by first | exact (f7 (upd_ne h7 (by decide))).up (Below.refl w'.heap.size w') | exact fun _ _ => rfl), (fun h8 => by first | exact (f8 (upd_ne h8 (by decide))).up (Below.refl w'.heap.size w') | exact fun _ _ => rfl), (fun h9 => by first | exact (f9 (upd_ne h9 (by decide))).up (Below.refl w'.heap.size w') | exact fun _ _ => rfl), (fun h10 => by first | exact (f10 (upd_ne h10 (by decide))).up (Below.refl w'.heap.size w') | exact fun _ _ => rfl), (fun h11 => by first | exact (f11 (upd_ne h11 (by decide))).up (Below.refl w'.heap.size w') | exact fun _ _ => rfl), (fun h12 => by first | exact (f12 (upd_ne h12 (by decide))).up (Below.refl w'.heap.size w') | exact fun _ _ => rfl), (fun h13 => by first | exact (f13 (upd_ne h13 (by decide))).up (Below.refl w'.heap.size w') | exact fun _ _ => rfl), (fun h14 => by first | exact (f14 (upd_ne h14 (by decide))).up (Below.refl w'.heap.size w') | exact fun _ _ => rfl), (fun h15 => by first | exact (f15 (upd_ne h15 (by decide))).up (Below.refl w'.heap.size w') | exact fun _ _ => rfl), (fun h16 => by first | exact (f16 (upd_ne h16 (by decide))).up (Below.refl w'.heap.size w') | exact fun _ _ => rfl), (fun h17 => by first | exact (f17 (upd_ne h17 (by decide))).up (Below.refl w'.heap.size w') | exact fun _ _ => rfl), (fun h18 => by first | exact (f18 (upd_ne h18 (by decide))).up (Below.refl w'.heap.size w') | exact fun _ _ => rfl), (fun h19 => by first | exact (f19 (upd_ne h19 (by decide))).up (Below.refl w'.heap.size w') | exact fun _ _ => rfl), (fun h20 => by first | exact (f20 (upd_ne h20 (by decide))).up (Below.refl w'.heap.size w') | exact fun _ _ => rfl)⟩)
              · rintro d ⟨x33, x34, x35, x36, x37, x38, x39, x40, x41, x42, x43, x44, x45, x46, x47, x48, x49, x50, x51, x52, x53⟩ w' hI hd hdp K hK
                dsimp only at hI
                rcases hI with ⟨hl, hB, f0, f1, f2, f3, f4, f5, f6, f7, f8, f9, f10, f11, f12, f13, f14, f15, f16, f17, f18, f19, f20⟩ | ⟨hall, -⟩
                case inr => exact absurd (hall 3 (by decide)) (by rw [hd]; decide)
                skip
                have HF : Hid _ := (And.intro hl (And.intro hB (And.intro f0 (And.intro f1 (And.intro f2 (And.intro f3 (And.intro f4 (And.intro f5 (And.intro f6 (And.intro f7 (And.intro f8 (And.intro f9 (And.intro f10 (And.intro f11 (And.intro f12 (And.intro f13 (And.intro f14 (And.intro f15 (And.intro f16 (And.intro f17 (And.intro f18 (And.intro f19 f20))))))))))))))))))))))
                clear f0 f1 f2 f3 f4 f5 f6 f7 f8 f9 f10 f11 f12 f13 f14 f15 f16 f17 f18 f19 f20 hB hdp hl hd
                refine Opn.mk ?_
                dsimp only
                go_simp
                obtain ⟨hl, hB, f0, f1, f2, f3, f4, f5, f6, f7, f8, f9, f10, f11, f12, f13, f14, f15, f16, f17, f18, f19, f20⟩ := HF.out
                exact hK.out (x33, x34, x35, .int .i64 (i : Int), x37, x38, x39, x40, x41, x42, x43, x44, x45, x46, x47, x48, x49, x50, x51, x52, x53) _ (.inl ⟨by rw [upd_no (by decide)]; exact hl, hB.trans (Below.mono (Below.refl w'.heap.size w') hB.size), (fun h0 => by first | exact (f0 (upd_ne h0 (by decide))).up (Below.refl w'.heap.size w') | exact fun _ _ => rfl), (fun h1 => by first | exact (f1 (upd_ne h1 (by decide))).up (Below.refl w'.heap.size w') | exact fun _ _ => rfl), (fun h2 => by first | exact (f2 (upd_ne h2 (by decide))).up (Below.refl w'.heap.size w') | exact fun _ _ => rfl), (fun _ => fun _ _ => rfl), (fun h4 => by first | exact (f4 (upd_ne h4 (by decide))).up (Below.refl w'.heap.size w') | exact fun _ _ => rfl), (fun h5 => by first | exact (f5 (upd_ne h5 (by decide))).up (Below.refl w'.heap.size w') | exact fun _ _ => rfl), (fun h6 => by first | exact (f6 (upd_ne h6 (by decide))).up (Below.refl w'.heap.size w') | exact fun _ _ => rfl), (fun h7 => by first | exact (f7 (upd_ne h7 (by decide))).up (Below.refl w'.heap.size w') | exact fun _ _ => rfl), (fun h8 => by first | exact (f8 (upd_ne h8 (by decide))).up (Below.refl w'.heap.size w') | exact fun _ _ => rfl), (fun h9 => by first | exact (f9 (upd_ne h9 (by decide))).up (Below.refl w'.heap.size w') | exact fun _ _ => rfl), (fun h10 => by first | exact (f10 (upd_ne h10 (by decide))).up (Below.refl w'.heap.size w') | exact fun _ _ => rfl), (fun h11 => by first | exact (f11 (upd_ne h11 (by decide))).up (Below.refl w'.heap.size w') | exact fun _ _ => rfl), (fun h12 => by first | exact (f12 (upd_ne h12 (by decide))).up (Below.refl w'.heap.size w') | exact fun _ _ => rfl), (fun h13 => by first | exact (f13 (upd_ne h13 (by decide))).up (Below.refl w'.heap.size w') | exact fun _ _ => rfl), (fun h14 => by first | exact (f14 (upd_ne h14 (by decide))).up (Below.refl w'.heap.size w') | exact fun _ _ => rfl), (fun h15 => by first | exact (f15 (upd_ne h15 (by decide))).up (Below.refl w'.heap.size w') | exact fun _ _ => rfl), (fun h16 => by first | exact (f16 (upd_ne h16 (by decide))).up (Below.refl w'.heap.size w') | exact fun _ _ => rfl), (fun h17 => by first | exact (f17 (upd_ne h17 (by decide))).up (Below.refl w'.heap.size w') | exact fun _ _ => rfl), (fun h18 => by first | exact (f18 (upd_ne h18 (by decide))).up (Below.refl w'.heap.size w') | exact fun _ _ => rfl), (fun h19 => by first | exact (f19 (upd_ne h19 (by decide))).up (Below.refl w'.heap.size w') | exact fun _ _ => rfl), (fun h20 => by first | exact (f20 (upd_ne h20 (by decide))).up (Below.refl w'.heap.size w') | exact fun _ _ => rfl)⟩)
              · rintro d ⟨x33, x34, x35, x36, x37, x38, x39, x40, x41, x42, x43, x44, x45, x46, x47, x48, x49, x50, x51, x52, x53⟩ w' hI hd hdp K hK
                dsimp only at hI
                rcases hI with ⟨hl, hB, f0, f1, f2, f3, f4, f5, f6, f7, f8, f9, f10, f11, f12, f13, f14, f15, f16, f17, f18, f19, f20⟩ | ⟨hall, -⟩
                case inr => exact absurd (hall 4 (by decide)) (by rw [hd]; decide)
                obtain rfl := (f2 (hdp 2 (by decide +kernel))).now
                obtain rfl := (f3 (hdp 3 (by decide +kernel))).now
                have HF : Hid _ := (And.intro hl (And.intro hB (And.intro f0 (And.intro f1 (And.intro f2 (And.intro f3 (And.intro f4 (And.intro f5 (And.intro f6 (And.intro f7 (And.intro f8 (And.intro f9 (And.intro f10 (And.intro f11 (And.intro f12 (And.intro f13 (And.intro f14 (And.intro f15 (And.intro f16 (And.intro f17 (And.intro f18 (And.intro f19 f20))))))))))))))))))))))
                clear f0 f1 f2 f3 f4 f5 f6 f7 f8 f9 f10 f11 f12 f13 f14 f15 f16 f17 f18 f19 f20 hB hdp hl hd
                refine Opn.mk ?_
                dsimp only
                go_simp
                obtain ⟨hl, hB, f0, f1, f2, f3, f4, f5, f6, f7, f8, f9, f10, f11, f12, f13, f14, f15, f16, f17, f18, f19, f20⟩ := HF.out
                exact hK.out (x33, x34, .slice (some ⟨b, off, none⟩) n cap, .int .i64 (i : Int), .pointer (some ⟨b, off + i * 4, none⟩), x38, x39, x40, x41, x42, x43, x44, x45, x46, x47, x48, x49, x50, x51, x52, x53) _ (.inl ⟨by rw [upd_no (by decide)]; exact hl, hB.trans (Below.mono (Below.refl w'.heap.size w') hB.size), (fun h0 => by first | exact (f0 (upd_ne h0 (by decide))).up (Below.refl w'.heap.size w') | exact fun _ _ => rfl), (fun h1 => by first | exact (f1 (upd_ne h1 (by decide))).up (Below.refl w'.heap.size w') | exact fun _ _ => rfl), (fun h2 => by first | exact (f2 (upd_ne h2 (by decide))).up (Below.refl w'.heap.size w') | exact fun _ _ => rfl), (fun h3 => by first | exact (f3 (upd_ne h3 (by decide))).up (Below.refl w'.heap.size w') | exact fun _ _ => rfl), (fun _ => fun _ _ => rfl), (fun h5 => by first | exact (f5 (upd_ne h5 (by decide))).up (Below.refl w'.heap.size w') | exact fun _ _ => rfl), (fun h6 => by first | exact (f6 (upd_ne h6 (by decide))).up (Below.refl w'.heap.size w') | exact fun _ _ => rfl), (fun h7 => by first | exact (f7 (upd_ne h7 (by decide))).up (Below.refl w'.heap.size w') | exact fun _ _ => rfl), (fun h8 => by first | exact (f8 (upd_ne h8 (by decide))).up (Below.refl w'.heap.size w') | exact fun _ _ => rfl), (fun h9 => by first | exact (f9 (upd_ne h9 (by decide))).up (Below.refl w'.heap.size w') | exact fun _ _ => rfl), (fun h10 => by first | exact (f10 (upd_ne h10 (by decide))).up (Below.refl w'.heap.size w') | exact fun _ _ => rfl), (fun h11 => by first | exact (f11 (upd_ne h11 (by decide))).up (Below.refl w'.heap.size w') | exact fun _ _ => rfl), (fun h12 => by first | exact (f12 (upd_ne h12 (by decide))).up (Below.refl w'.heap.size w') | exact fun _ _ => rfl), (fun h13 => by first | exact (f13 (upd_ne h13 (by decide))).up (Below.refl w'.heap.size w') | exact fun _ _ => rfl), (fun h14 => by first | exact (f14 (upd_ne h14 (by decide))).up (Below.refl w'.heap.size w') | exact fun _ _ => rfl), (fun h15 => by first | exact (f15 (upd_ne h15 (by decide))).up (Below.refl w'.heap.size w') | exact fun _ _ => rfl), (fun h16 => by first | exact (f16 (upd_ne h16 (by decide))).up (Below.refl w'.heap.size w') | exact fun _ _ => rfl), (fun h17 => by first | exact (f17 (upd_ne h17 (by decide))).up (Below.refl w'.heap.size w') | exact fun _ _ => rfl), (fun h18 => by first | exact (f18 (upd_ne h18 (by decide))).up (Below.refl w'.heap.size w') | exact fun _ _ => rfl), (fun h19 => by first | exact (f19 (upd_ne h19 (by decide))).up (Below.refl w'.heap.size w') | exact fun _ _ => rfl), (fun h20 => by first | exact (f20 (upd_ne h20 (by decide))).up (Below.refl w'.heap.size w') | exact fun _ _ => rfl)⟩)
              · rintro d ⟨x33, x34, x35, x36, x37, x38, x39, x40, x41, x42, x43, x44, x45, x46, x47, x48, x49, x50, x51, x52, x53⟩ w' hI hd hdp K hK
                dsimp only at hI
                rcases hI with ⟨hl, hB, f0, f1, f2, f3, f4, f5, f6, f7, f8, f9, f10, f11, f12, f13, f14, f15, f16, f17, f18, f19, f20⟩ | ⟨hall, -⟩
                case inr => exact absurd (hall 5 (by decide)) (by rw [hd]; decide)
                obtain rfl := (f4 (hdp 4 (by decide +kernel))).now
                have HF : Hid _ := (And.intro hl (And.intro hB (And.intro f0 (And.intro f1 (And.intro f2 (And.intro f3 (And.intro f4 (And.intro f5 (And.intro f6 (And.intro f7 (And.intro f8 (And.intro f9 (And.intro f10 (And.intro f11 (And.intro f12 (And.intro f13 (And.intro f14 (And.intro f15 (And.intro f16 (And.intro f17 (And.intro f18 (And.intro f19 f20))))))))))))))))))))))
                clear f0 f1 f2 f3 f4 f5 f6 f7 f8 f9 f10 f11 f12 f13 f14 f15 f16 f17 f18 f19 f20 hB hdp hl hd
                refine Opn.mk ?_
                dsimp only
                go_simp
                obtain ⟨hl, hB, f0, f1, f2, f3, f4, f5, f6, f7, f8, f9, f10, f11, f12, f13, f14, f15, f16, f17, f18, f19, f20⟩ := HF.out
                exact hK.out (x33, x34, x35, x36, .pointer (some ⟨b, off + i * 4, none⟩), .pointer (some ⟨b, off + i * 4, none⟩), x39, x40, x41, x42, x43, x44, x45, x46, x47, x48, x49, x50, x51, x52, x53) _ (.inl ⟨by rw [upd_no (by decide)]; exact hl, hB.trans (Below.mono (Below.refl w'.heap.size w') hB.size), (fun h0 => by first | exact (f0 (upd_ne h0 (by decide))).up (Below.refl w'.heap.size w') | exact fun _ _ => rfl), (fun h1 => by first | exact (f1 (upd_ne h1 (by decide))).up (Below.refl w'.heap.size w') | exact fun _ _ => rfl), (fun h2 => by first | exact (f2 (upd_ne h2 (by decide))).up (Below.refl w'.heap.size w') | exact fun _ _ => rfl), (fun h3 => by first | exact (f3 (upd_ne h3 (by decide))).up (Below.refl w'.heap.size w') | exact fun _ _ => rfl), (fun h4 => by first | exact (f4 (upd_ne h4 (by decide))).up (Below.refl w'.heap.size w') | exact fun _ _ => rfl), (fun _ => fun _ _ => rfl), (fun h6 => by first | exact (f6 (upd_ne h6 (by decide))).up (Below.refl w'.heap.size w') | exact fun _ _ => rfl), (fun h7 => by first | exact (f7 (upd_ne h7 (by decide))).up (Below.refl w'.heap.size w') | exact fun _ _ => rfl), (fun h8 => by first | exact (f8 (upd_ne h8 (by decide))).up (Below.refl w'.heap.size w') | exact fun _ _ => rfl), (fun h9 => by first | exact (f9 (upd_ne h9 (by decide))).up (Below.refl w'.heap.size w') | exact fun _ _ => rfl), (fun h10 => by first | exact (f10 (upd_ne h10 (by decide))).up (Below.refl w'.heap.size w') | exact fun _ _ => rfl), (fun h11 => by first | exact (f11 (upd_ne h11 (by decide))).up (Below.refl w'.heap.size w') | exact fun _ _ => rfl), (fun h12 => by first | exact (f12 (upd_ne h12 (by decide))).up (Below.refl w'.heap.size w') | exact fun _ _ => rfl), (fun h13 => by first | exact (f13 (upd_ne h13 (by decide))).up (Below.refl w'.heap.size w') | exact fun _ _ => rfl), (fun h14 => by first | exact (f14 (upd_ne h14 (by decide))).up (Below.refl w'.heap.size w') | exact fun _ _ => rfl), (fun h15 => by first | exact (f15 (upd_ne h15 (by decide))).up (Below.refl w'.heap.size w') | exact fun _ _ => rfl), (fun h16 => by first | exact (f16 (upd_ne h16 (by decide))).up (Below.refl w'.heap.size w') | exact fun _ _ => rfl), (fun h17 => by first | exact (f17 (upd_ne h17 (by decide))).up (Below.refl w'.heap.size w') | exact fun _ _ => rfl), (fun h18 => by first | exact (f18 (upd_ne h18 (by decide))).up (Below.refl w'.heap.size w') | exact fun _ _ => rfl), (fun h19 => by first | exact (f19 (upd_ne h19 (by decide))).up (Below.refl w'.heap.size w') | exact fun _ _ => rfl), (fun h20 => by first | exact (f20 (upd_ne h20 (by decide))).up (Below.refl w'.heap.size w') | exact fun _ _ => rfl)⟩)
              · rintro d ⟨x33, x34, x35, x36, x37, x38, x39, x40, x41, x42, x43, x44, x45, x46, x47, x48, x49, x50, x51, x52, x53⟩ w' hI hd hdp K hK
                dsimp only at hI
                rcases hI with ⟨hl, hB, f0, f1, f2, f3, f4, f5, f6, f7, f8, f9, f10, f11, f12, f13, f14, f15, f16, f17, f18, f19, f20⟩ | ⟨hall, -⟩
                case inr => exact absurd (hall 6 (by decide)) (by rw [hd]; decide)
                obtain rfl := (f5 (hdp 5 (by decide +kernel))).now
                have HF : Hid _ := (And.intro hl (And.intro hB (And.intro f0 (And.intro f1 (And.intro f2 (And.intro f3 (And.intro f4 (And.intro f5 (And.intro f6 (And.intro f7 (And.intro f8 (And.intro f9 (And.intro f10 (And.intro f11 (And.intro f12 (And.intro f13 (And.intro f14 (And.intro f15 (And.intro f16 (And.intro f17 (And.intro f18 (And.intro f19 f20))))))))))))))))))))))
                clear f0 f1 f2 f3 f4 f5 f6 f7 f8 f9 f10 f11 f12 f13 f14 f15 f16 f17 f18 f19 f20 hB hdp hl hd
                refine Opn.mk ?_
                dsimp only
                go_simp
                obtain ⟨hl, hB, f0, f1, f2, f3, f4, f5, f6, f7, f8, f9, f10, f11, f12, f13, f14, f15, f16, f17, f18, f19, f20⟩ := HF.out
                exact hK.out (x33, x34, x35, x36, x37, .pointer (some ⟨b, off + i * 4, none⟩), .pointer (some ⟨b, off + i * 4 + 2, none⟩), x40, x41, x42, x43, x44, x45, x46, x47, x48, x49, x50, x51, x52, x53) _ (.inl ⟨by rw [upd_no (by decide)]; exact hl, hB.trans (Below.mono (Below.refl w'.heap.size w') hB.size), (fun h0 => by first | exact (f0 (upd_ne h0 (by decide))).up (Below.refl w'.heap.size w') | exact fun _ _ => rfl), (fun h1 => by first | exact (f1 (upd_ne h1 (by decide))).up (Below.refl w'.heap.size w') | exact fun _ _ => rfl), (fun h2 => by first | exact (f2 (upd_ne h2 (by decide))).up (Below.refl w'.heap.size w') | exact fun _ _ => rfl), (fun h3 => by first | exact (f3 (upd_ne h3 (by decide))).up (Below.refl w'.heap.size w') | exact fun _ _ => rfl), (fun h4 => by first | exact (f4 (upd_ne h4 (by decide))).up (Below.refl w'.heap.size w') | exact fun _ _ => rfl), (fun h5 => by first | exact (f5 (upd_ne h5 (by decide))).up (Below.refl w'.heap.size w') | exact fun _ _ => rfl), (fun _ => fun _ _ => rfl), (fun h7 => by first | exact (f7 (upd_ne h7 (by decide))).up (Below.refl w'.heap.size w') | exact fun _ _ => rfl), (fun h8 => by first | exact (f8 (upd_ne h8 (by decide))).up (Below.refl w'.heap.size w') | exact fun _ _ => rfl), (fun h9 => by first | exact (f9 (upd_ne h9 (by decide))).up (Below.refl w'.heap.size w') | exact fun _ _ => rfl), (fun h10 => by first | exact (f10 (upd_ne h10 (by decide))).up (Below.refl w'.heap.size w') | exact fun _ _ => rfl), (fun h11 => by first | exact (f11 (upd_ne h11 (by decide))).up (Below.refl w'.heap.size w') | exact fun _ _ => rfl), (fun h12 => by first | exact (f12 (upd_ne h12 (by decide))).up (Below.refl w'.heap.size w') | exact fun _ _ => rfl), (fun h13 => by first | exact (f13 (upd_ne h13 (by decide))).up (Below.refl w'.heap.size w') | exact fun _ _ => rfl), (fun h14 => by first | exact (f14 (upd_ne h14 (by decide))).up (Below.refl w'.heap.size w') | exact fun _ _ => rfl), (fun h15 => by first | exact (f15 (upd_ne h15 (by decide))).up (Below.refl w'.heap.size w') | exact fun _ _ => rfl), (fun h16 => by first | exact (f16 (upd_ne h16 (by decide))).up (Below.refl w'.heap.size w') | exact fun _ _ => rfl), (fun h17 => by first | exact (f17 (upd_ne h17 (by decide))).up (Below.refl w'.heap.size w') | exact fun _ _ => rfl), (fun h18 => by first | exact (f18 (upd_ne h18 (by decide))).up (Below.refl w'.heap.size w') | exact fun _ _ => rfl), (fun h19 => by first | exact (f19 (upd_ne h19 (by decide))).up (Below.refl w'.heap.size w') | exact fun _ _ => rfl), (fun h20 => by first | exact (f20 (upd_ne h20 (by decide))).up (Below.refl w'.heap.size w') | exact fun _ _ => rfl)⟩)
              · rintro d ⟨x33, x34, x35, x36, x37, x38, x39, x40, x41, x42, x43, x44, x45, x46, x47, x48, x49, x50, x51, x52, x53⟩ w' hI hd hdp K hK
                dsimp only at hI
                rcases hI with ⟨hl, hB, f0, f1, f2, f3, f4, f5, f6, f7, f8, f9, f10, f11, f12, f13, f14, f15, f16, f17, f18, f19, f20⟩ | ⟨hall, -⟩
                case inr => exact absurd (hall 7 (by decide)) (by rw [hd]; decide)
                obtain rfl := (f6 (hdp 6 (by decide +kernel))).now
                have c0 := cell_up hB t2
                have HF : Hid _ := (And.intro hl (And.intro hB (And.intro f0 (And.intro f1 (And.intro f2 (And.intro f3 (And.intro f4 (And.intro f5 (And.intro f6 (And.intro f7 (And.intro f8 (And.intro f9 (And.intro f10 (And.intro f11 (And.intro f12 (And.intro f13 (And.intro f14 (And.intro f15 (And.intro f16 (And.intro f17 (And.intro f18 (And.intro f19 f20))))))))))))))))))))))
                clear f0 f1 f2 f3 f4 f5 f6 f7 f8 f9 f10 f11 f12 f13 f14 f15 f16 f17 f18 f19 f20 hB hdp hl hd
                refine Opn.mk ?_
                dsimp only
                go_simp
                obtain ⟨hl, hB, f0, f1, f2, f3, f4, f5, f6, f7, f8, f9, f10, f11, f12, f13, f14, f15, f16, f17, f18, f19, f20⟩ := HF.out
                exact hK.out (x33, x34, x35, x36, x37, x38, .pointer (some ⟨b, off + i * 4 + 2, none⟩), .slice (some ⟨bm, om, none⟩) 2 cm, x41, x42, x43, x44, x45, x46, x47, x48, x49, x50, x51, x52, x53) _ (.inl ⟨by rw [upd_no (by decide)]; exact hl, hB.trans (Below.mono (Below.refl w'.heap.size w') hB.size), (fun h0 => by first | exact (f0 (upd_ne h0 (by decide))).up (Below.refl w'.heap.size w') | exact fun _ _ => rfl), (fun h1 => by first | exact (f1 (upd_ne h1 (by decide))).up (Below.refl w'.heap.size w') | exact fun _ _ => rfl), (fun h2 => by first | exact (f2 (upd_ne h2 (by decide))).up (Below.refl w'.heap.size w') | exact fun _ _ => rfl), (fun h3 => by first | exact (f3 (upd_ne h3 (by decide))).up (Below.refl w'.heap.size w') | exact fun _ _ => rfl), (fun h4 => by first | exact (f4 (upd_ne h4 (by decide))).up (Below.refl w'.heap.size w') | exact fun _ _ => rfl), (fun h5 => by first | exact (f5 (upd_ne h5 (by decide))).up (Below.refl w'.heap.size w') | exact fun _ _ => rfl), (fun h6 => by first | exact (f6 (upd_ne h6 (by decide))).up (Below.refl w'.heap.size w') | exact fun _ _ => rfl), (fun _ => fun _ _ => rfl), (fun h8 => by first | exact (f8 (upd_ne h8 (by decide))).up (Below.refl w'.heap.size w') | exact fun _ _ => rfl), (fun h9 => by first | exact (f9 (upd_ne h9 (by decide))).up (Below.refl w'.heap.size w') | exact fun _ _ => rfl), (fun h10 => by first | exact (f10 (upd_ne h10 (by decide))).up (Below.refl w'.heap.size w') | exact fun _ _ => rfl), (fun h11 => by first | exact (f11 (upd_ne h11 (by decide))).up (Below.refl w'.heap.size w') | exact fun _ _ => rfl), (fun h12 => by first | exact (f12 (upd_ne h12 (by decide))).up (Below.refl w'.heap.size w') | exact fun _ _ => rfl), (fun h13 => by first | exact (f13 (upd_ne h13 (by decide))).up (Below.refl w'.heap.size w') | exact fun _ _ => rfl), (fun h14 => by first | exact (f14 (upd_ne h14 (by decide))).up (Below.refl w'.heap.size w') | exact fun _ _ => rfl), (fun h15 => by first | exact (f15 (upd_ne h15 (by decide))).up (Below.refl w'.heap.size w') | exact fun _ _ => rfl), (fun h16 => by first | exact (f16 (upd_ne h16 (by decide))).up (Below.refl w'.heap.size w') | exact fun _ _ => rfl), (fun h17 => by first | exact (f17 (upd_ne h17 (by decide))).up (Below.refl w'.heap.size w') | exact fun _ _ => rfl), (fun h18 => by first | exact (f18 (upd_ne h18 (by decide))).up (Below.refl w'.heap.size w') | exact fun _ _ => rfl), (fun h19 => by first | exact (f19 (upd_ne h19 (by decide))).up (Below.refl w'.heap.size w') | exact fun _ _ => rfl), (fun h20 => by first | exact (f20 (upd_ne h20 (by decide))).up (Below.refl w'.heap.size w') | exact fun _ _ => rfl)⟩)
              · rintro d ⟨x33, x34, x35, x36, x37, x38, x39, x40, x41, x42, x43, x44, x45, x46, x47, x48, x49, x50, x51, x52, x53⟩ w' hI hd hdp K hK
                dsimp only at hI
                rcases hI with ⟨hl, hB, f0, f1, f2, f3, f4, f5, f6, f7, f8, f9, f10, f11, f12, f13, f14, f15, f16, f17, f18, f19, f20⟩ | ⟨hall, -⟩
                case inr => exact absurd (hall 8 (by decide)) (by rw [hd]; decide)
                skip
                have HF : Hid _ := (And.intro hl (And.intro hB (And.intro f0 (And.intro f1 (And.intro f2 (And.intro f3 (And.intro f4 (And.intro f5 (And.intro f6 (And.intro f7 (And.intro f8 (And.intro f9 (And.intro f10 (And.intro f11 (And.intro f12 (And.intro f13 (And.intro f14 (And.intro f15 (And.intro f16 (And.intro f17 (And.intro f18 (And.intro f19 f20))))))))))))))))))))))
                clear f0 f1 f2 f3 f4 f5 f6 f7 f8 f9 f10 f11 f12 f13 f14 f15 f16 f17 f18 f19 f20 hB hdp hl hd
                refine Opn.mk ?_
                dsimp only
                go_simp
                obtain ⟨hl, hB, f0, f1, f2, f3, f4, f5, f6, f7, f8, f9, f10, f11, f12, f13, f14, f15, f16, f17, f18, f19, f20⟩ := HF.out
                exact hK.out (x33, x34, x35, x36, x37, x38, x39, x40, .pointer (some ⟨w.heap.size, 1, none⟩), x42, x43, x44, x45, x46, x47, x48, x49, x50, x51, x52, x53) _ (.inl ⟨by rw [upd_no (by decide)]; exact hl, hB.trans (Below.mono (Below.refl w'.heap.size w') hB.size), (fun h0 => by first | exact (f0 (upd_ne h0 (by decide))).up (Below.refl w'.heap.size w') | exact fun _ _ => rfl), (fun h1 => by first | exact (f1 (upd_ne h1 (by decide))).up (Below.refl w'.heap.size w') | exact fun _ _ => rfl), (fun h2 => by first | exact (f2 (upd_ne h2 (by decide))).up (Below.refl w'.heap.size w') | exact fun _ _ => rfl), (fun h3 => by first | exact (f3 (upd_ne h3 (by decide))).up (Below.refl w'.heap.size w') | exact fun _ _ => rfl), (fun h4 => by first | exact (f4 (upd_ne h4 (by decide))).up (Below.refl w'.heap.size w') | exact fun _ _ => rfl), (fun h5 => by first | exact (f5 (upd_ne h5 (by decide))).up (Below.refl w'.heap.size w') | exact fun _ _ => rfl), (fun h6 => by first | exact (f6 (upd_ne h6 (by decide))).up (Below.refl w'.heap.size w') | exact fun _ _ => rfl), (fun h7 => by first | exact (f7 (upd_ne h7 (by decide))).up (Below.refl w'.heap.size w') | exact fun _ _ => rfl), (fun _ => fun _ _ => rfl), (fun h9 => by first | exact (f9 (upd_ne h9 (by decide))).up (Below.refl w'.heap.size w') | exact fun _ _ => rfl), (fun h10 => by first | exact (f10 (upd_ne h10 (by decide))).up (Below.refl w'.heap.size w') | exact fun _ _ => rfl), (fun h11 => by first | exact (f11 (upd_ne h11 (by decide))).up (Below.refl w'.heap.size w') | exact fun _ _ => rfl), (fun h12 => by first | exact (f12 (upd_ne h12 (by decide))).up (Below.refl w'.heap.size w') | exact fun _ _ => rfl), (fun h13 => by first | exact (f13 (upd_ne h13 (by decide))).up (Below.refl w'.heap.size w') | exact fun _ _ => rfl), (fun h14 => by first | exact (f14 (upd_ne h14 (by decide))).up (Below.refl w'.heap.size w') | exact fun _ _ => rfl), (fun h15 => by first | exact (f15 (upd_ne h15 (by decide))).up (Below.refl w'.heap.size w') | exact fun _ _ => rfl), (fun h16 => by first | exact (f16 (upd_ne h16 (by decide))).up (Below.refl w'.heap.size w') | exact fun _ _ => rfl), (fun h17 => by first | exact (f17 (upd_ne h17 (by decide))).up (Below.refl w'.heap.size w') | exact fun _ _ => rfl), (fun h18 => by first | exact (f18 (upd_ne h18 (by decide))).up (Below.refl w'.heap.size w') | exact fun _ _ => rfl), (fun h19 => by first | exact (f19 (upd_ne h19 (by decide))).up (Below.refl w'.heap.size w') | exact fun _ _ => rfl), (fun h20 => by first | exact (f20 (upd_ne h20 (by decide))).up (Below.refl w'.heap.size w') | exact fun _ _ => rfl)⟩)
              · rintro d ⟨x33, x34, x35, x36, x37, x38, x39, x40, x41, x42, x43, x44, x45, x46, x47, x48, x49, x50, x51, x52, x53⟩ w' hI hd hdp K hK
                dsimp only at hI
                rcases hI with ⟨hl, hB, f0, f1, f2, f3, f4, f5, f6, f7, f8, f9, f10, f11, f12, f13, f14, f15, f16, f17, f18, f19, f20⟩ | ⟨hall, -⟩
                case inr => exact absurd (hall 9 (by decide)) (by rw [hd]; decide)
                obtain rfl := (f8 (hdp 8 (by decide +kernel))).now
                have c0 := cell_up hB q1
                have HF : Hid _ := (And.intro hl (And.intro hB (And.intro f0 (And.intro f1 (And.intro f2 (And.intro f3 (And.intro f4 (And.intro f5 (And.intro f6 (And.intro f7 (And.intro f8 (And.intro f9 (And.intro f10 (And.intro f11 (And.intro f12 (And.intro f13 (And.intro f14 (And.intro f15 (And.intro f16 (And.intro f17 (And.intro f18 (And.intro f19 f20))))))))))))))))))))))
                clear f0 f1 f2 f3 f4 f5 f6 f7 f8 f9 f10 f11 f12 f13 f14 f15 f16 f17 f18 f19 f20 hB hdp hl hd
                refine Opn.mk ?_
                dsimp only
                go_simp
                obtain ⟨hl, hB, f0, f1, f2, f3, f4, f5, f6, f7, f8, f9, f10, f11, f12, f13, f14, f15, f16, f17, f18, f19, f20⟩ := HF.out
                exact hK.out (x33, x34, x35, x36, x37, x38, x39, x40, .pointer (some ⟨w.heap.size, 1, none⟩), .int .i64 (cc : Int), x43, x44, x45, x46, x47, x48, x49, x50, x51, x52, x53) _ (.inl ⟨by rw [upd_no (by decide)]; exact hl, hB.trans (Below.mono (Below.refl w'.heap.size w') hB.size), (fun h0 => by first | exact (f0 (upd_ne h0 (by decide))).up (Below.refl w'.heap.size w') | exact fun _ _ => rfl), (fun h1 => by first | exact (f1 (upd_ne h1 (by decide))).up (Below.refl w'.heap.size w') | exact fun _ _ => rfl), (fun h2 => by first | exact (f2 (upd_ne h2 (by decide))).up (Below.refl w'.heap.size w') | exact fun _ _ => rfl), (fun h3 => by first | exact (f3 (upd_ne h3 (by decide))).up (Below.refl w'.heap.size w') | exact fun _ _ => rfl), (fun h4 => by first | exact (f4 (upd_ne h4 (by decide))).up (Below.refl w'.heap.size w') | exact fun _ _ => rfl), (fun h5 => by first | exact (f5 (upd_ne h5 (by decide))).up (Below.refl w'.heap.size w') | exact fun _ _ => rfl), (fun h6 => by first | exact (f6 (upd_ne h6 (by decide))).up (Below.refl w'.heap.size w') | exact fun _ _ => rfl), (fun h7 => by first | exact (f7 (upd_ne h7 (by decide))).up (Below.refl w'.heap.size w') | exact fun _ _ => rfl), (fun h8 => by first | exact (f8 (upd_ne h8 (by decide))).up (Below.refl w'.heap.size w') | exact fun _ _ => rfl), (fun _ => fun _ _ => rfl), (fun h10 => by first | exact (f10 (upd_ne h10 (by decide))).up (Below.refl w'.heap.size w') | exact fun _ _ => rfl), (fun h11 => by first | exact (f11 (upd_ne h11 (by decide))).up (Below.refl w'.heap.size w') | exact fun _ _ => rfl), (fun h12 => by first | exact (f12 (upd_ne h12 (by decide))).up (Below.refl w'.heap.size w') | exact fun _ _ => rfl), (fun h13 => by first | exact (f13 (upd_ne h13 (by decide))).up (Below.refl w'.heap.size w') | exact fun _ _ => rfl), (fun h14 => by first | exact (f14 (upd_ne h14 (by decide))).up (Below.refl w'.heap.size w') | exact fun _ _ => rfl), (fun h15 => by first | exact (f15 (upd_ne h15 (by decide))).up (Below.refl w'.heap.size w') | exact fun _ _ => rfl), (fun h16 => by first | exact (f16 (upd_ne h16 (by decide))).up (Below.refl w'.heap.size w') | exact fun _ _ => rfl), (fun h17 => by first | exact (f17 (upd_ne h17 (by decide))).up (Below.refl w'.heap.size w') | exact fun _ _ => rfl), (fun h18 => by first | exact (f18 (upd_ne h18 (by decide))).up (Below.refl w'.heap.size w') | exact fun _ _ => rfl), (fun h19 => by first | exact (f19 (upd_ne h19 (by decide))).up (Below.refl w'.heap.size w') | exact fun _ _ => rfl), (fun h20 => by first | exact (f20 (upd_ne h20 (by decide))).up (Below.refl w'.heap.size w') | exact fun _ _ => rfl)⟩)
              · rintro d ⟨x33, x34, x35, x36, x37, x38, x39, x40, x41, x42, x43, x44, x45, x46, x47, x48, x49, x50, x51, x52, x53⟩ w' hI hd hdp K hK
                dsimp only at hI
                rcases hI with ⟨hl, hB, f0, f1, f2, f3, f4, f5, f6, f7, f8, f9, f10, f11, f12, f13, f14, f15, f16, f17, f18, f19, f20⟩ | ⟨hall, -⟩
                case inr => exact absurd (hall 10 (by decide)) (by rw [hd]; decide)
                obtain rfl := (f7 (hdp 7 (by decide +kernel))).now
                obtain rfl := (f9 (hdp 9 (by decide +kernel))).now
                have HF : Hid _ := (And.intro hl (And.intro hB (And.intro f0 (And.intro f1 (And.intro f2 (And.intro f3 (And.intro f4 (And.intro f5 (And.intro f6 (And.intro f7 (And.intro f8 (And.intro f9 (And.intro f10 (And.intro f11 (And.intro f12 (And.intro f13 (And.intro f14 (And.intro f15 (And.intro f16 (And.intro f17 (And.intro f18 (And.intro f19 f20))))))))))))))))))))))
                clear f0 f1 f2 f3 f4 f5 f6 f7 f8 f9 f10 f11 f12 f13 f14 f15 f16 f17 f18 f19 f20 hB hdp hl hd
                refine Opn.mk ?_
                dsimp only
                go_simp
                obtain ⟨hl, hB, f0, f1, f2, f3, f4, f5, f6, f7, f8, f9, f10, f11, f12, f13, f14, f15, f16, f17, f18, f19, f20⟩ := HF.out
                exact hK.out (x33, x34, x35, x36, x37, x38, x39, .slice (some ⟨bm, om, none⟩) 2 cm, x41, .int .i64 (cc : Int), .pointer (some ⟨bm, om + cc, none⟩), x44, x45, x46, x47, x48, x49, x50, x51, x52, x53) _ (.inl ⟨by rw [upd_no (by decide)]; exact hl, hB.trans (Below.mono (Below.refl w'.heap.size w') hB.size), (fun h0 => by first | exact (f0 (upd_ne h0 (by decide))).up (Below.refl w'.heap.size w') | exact fun _ _ => rfl), (fun h1 => by first | exact (f1 (upd_ne h1 (by decide))).up (Below.refl w'.heap.size w') | exact fun _ _ => rfl), (fun h2 => by first | exact (f2 (upd_ne h2 (by decide))).up (Below.refl w'.heap.size w') | exact fun _ _ => rfl), (fun h3 => by first | exact (f3 (upd_ne h3 (by decide))).up (Below.refl w'.heap.size w') | exact fun _ _ => rfl), (fun h4 => by first | exact (f4 (upd_ne h4 (by decide))).up (Below.refl w'.heap.size w') | exact fun _ _ => rfl), (fun h5 => by first | exact (f5 (upd_ne h5 (by decide))).up (Below.refl w'.heap.size w') | exact fun _ _ => rfl), (fun h6 => by first | exact (f6 (upd_ne h6 (by decide))).up (Below.refl w'.heap.size w') | exact fun _ _ => rfl), (fun h7 => by first | exact (f7 (upd_ne h7 (by decide))).up (Below.refl w'.heap.size w') | exact fun _ _ => rfl), (fun h8 => by first | exact (f8 (upd_ne h8 (by decide))).up (Below.refl w'.heap.size w') | exact fun _ _ => rfl), (fun h9 => by first | exact (f9 (upd_ne h9 (by decide))).up (Below.refl w'.heap.size w') | exact fun _ _ => rfl), (fun _ => fun _ _ => rfl), (fun h11 => by first | exact (f11 (upd_ne h11 (by decide))).up (Below.refl w'.heap.size w') | exact fun _ _ => rfl), (fun h12 => by first | exact (f12 (upd_ne h12 (by decide))).up (Below.refl w'.heap.size w') | exact fun _ _ => rfl), (fun h13 => by first | exact (f13 (upd_ne h13 (by decide))).up (Below.refl w'.heap.size w') | exact fun _ _ => rfl), (fun h14 => by first | exact (f14 (upd_ne h14 (by decide))).up (Below.refl w'.heap.size w') | exact fun _ _ => rfl), (fun h15 => by first | exact (f15 (upd_ne h15 (by decide))).up (Below.refl w'.heap.size w') | exact fun _ _ => rfl), (fun h16 => by first | exact (f16 (upd_ne h16 (by decide))).up (Below.refl w'.heap.size w') | exact fun _ _ => rfl), (fun h17 => by first | exact (f17 (upd_ne h17 (by decide))).up (Below.refl w'.heap.size w') | exact fun _ _ => rfl), (fun h18 => by first | exact (f18 (upd_ne h18 (by decide))).up (Below.refl w'.heap.size w') | exact fun _ _ => rfl), (fun h19 => by first | exact (f19 (upd_ne h19 (by decide))).up (Below.refl w'.heap.size w') | exact fun _ _ => rfl), (fun h20 => by first | exact (f20 (upd_ne h20 (by decide))).up (Below.refl w'.heap.size w') | exact fun _ _ => rfl)⟩)
              · rintro d ⟨x33, x34, x35, x36, x37, x38, x39, x40, x41, x42, x43, x44, x45, x46, x47, x48, x49, x50, x51, x52, x53⟩ w' hI hd hdp K hK
                dsimp only at hI
                rcases hI with ⟨hl, hB, f0, f1, f2, f3, f4, f5, f6, f7, f8, f9, f10, f11, f12, f13, f14, f15, f16, f17, f18, f19, f20⟩ | ⟨hall, -⟩
                case inr => exact absurd (hall 11 (by decide)) (by rw [hd]; decide)
                obtain rfl := (f10 (hdp 10 (by decide +kernel))).now
                have c0 := cell_up hB tm
                have HF : Hid _ := (And.intro hl (And.intro hB (And.intro f0 (And.intro f1 (And.intro f2 (And.intro f3 (And.intro f4 (And.intro f5 (And.intro f6 (And.intro f7 (And.intro f8 (And.intro f9 (And.intro f10 (And.intro f11 (And.intro f12 (And.intro f13 (And.intro f14 (And.intro f15 (And.intro f16 (And.intro f17 (And.intro f18 (And.intro f19 f20))))))))))))))))))))))
                clear f0 f1 f2 f3 f4 f5 f6 f7 f8 f9 f10 f11 f12 f13 f14 f15 f16 f17 f18 f19 f20 hB hdp hl hd
                refine Opn.mk ?_
                dsimp only
                go_simp
                obtain ⟨hl, hB, f0, f1, f2, f3, f4, f5, f6, f7, f8, f9, f10, f11, f12, f13, f14, f15, f16, f17, f18, f19, f20⟩ := HF.out
                exact hK.out (x33, x34, x35, x36, x37, x38, x39, x40, x41, x42, .pointer (some ⟨bm, om + cc, none⟩), .int .i64 mm, x45, x46, x47, x48, x49, x50, x51, x52, x53) _ (.inl ⟨by rw [upd_no (by decide)]; exact hl, hB.trans (Below.mono (Below.refl w'.heap.size w') hB.size), (fun h0 => by first | exact (f0 (upd_ne h0 (by decide))).up (Below.refl w'.heap.size w') | exact fun _ _ => rfl), (fun h1 => by first | exact (f1 (upd_ne h1 (by decide))).up (Below.refl w'.heap.size w') | exact fun _ _ => rfl), (fun h2 => by first | exact (f2 (upd_ne h2 (by decide))).up (Below.refl w'.heap.size w') | exact fun _ _ => rfl), (fun h3 => by first | exact (f3 (upd_ne h3 (by decide))).up (Below.refl w'.heap.size w') | exact fun _ _ => rfl), (fun h4 => by first | exact (f4 (upd_ne h4 (by decide))).up (Below.refl w'.heap.size w') | exact fun _ _ => rfl), (fun h5 => by first | exact (f5 (upd_ne h5 (by decide))).up (Below.refl w'.heap.size w') | exact fun _ _ => rfl), (fun h6 => by first | exact (f6 (upd_ne h6 (by decide))).up (Below.refl w'.heap.size w') | exact fun _ _ => rfl), (fun h7 => by first | exact (f7 (upd_ne h7 (by decide))).up (Below.refl w'.heap.size w') | exact fun _ _ => rfl), (fun h8 => by first | exact (f8 (upd_ne h8 (by decide))).up (Below.refl w'.heap.size w') | exact fun _ _ => rfl), (fun h9 => by first | exact (f9 (upd_ne h9 (by decide))).up (Below.refl w'.heap.size w') | exact fun _ _ => rfl), (fun h10 => by first | exact (f10 (upd_ne h10 (by decide))).up (Below.refl w'.heap.size w') | exact fun _ _ => rfl), (fun _ => fun _ _ => rfl), (fun h12 => by first | exact (f12 (upd_ne h12 (by decide))).up (Below.refl w'.heap.size w') | exact fun _ _ => rfl), (fun h13 => by first | exact (f13 (upd_ne h13 (by decide))).up (Below.refl w'.heap.size w') | exact fun _ _ => rfl), (fun h14 => by first | exact (f14 (upd_ne h14 (by decide))).up (Below.refl w'.heap.size w') | exact fun _ _ => rfl), (fun h15 => by first | exact (f15 (upd_ne h15 (by decide))).up (Below.refl w'.heap.size w') | exact fun _ _ => rfl), (fun h16 => by first | exact (f16 (upd_ne h16 (by decide))).up (Below.refl w'.heap.size w') | exact fun _ _ => rfl), (fun h17 => by first | exact (f17 (upd_ne h17 (by decide))).up (Below.refl w'.heap.size w') | exact fun _ _ => rfl), (fun h18 => by first | exact (f18 (upd_ne h18 (by decide))).up (Below.refl w'.heap.size w') | exact fun _ _ => rfl), (fun h19 => by first | exact (f19 (upd_ne h19 (by decide))).up (Below.refl w'.heap.size w') | exact fun _ _ => rfl), (fun h20 => by first | exact (f20 (upd_ne h20 (by decide))).up (Below.refl w'.heap.size w') | exact fun _ _ => rfl)⟩)
              · rintro d ⟨x33, x34, x35, x36, x37, x38, x39, x40, x41, x42, x43, x44, x45, x46, x47, x48, x49, x50, x51, x52, x53⟩ w' hI hd hdp K hK
                dsimp only at hI
                rcases hI with ⟨hl, hB, f0, f1, f2, f3, f4, f5, f6, f7, f8, f9, f10, f11, f12, f13, f14, f15, f16, f17, f18, f19, f20⟩ | ⟨hall, -⟩
                case inr => exact absurd (hall 12 (by decide)) (by rw [hd]; decide)
                skip
                have HF : Hid _ := (And.intro hl (And.intro hB (And.intro f0 (And.intro f1 (And.intro f2 (And.intro f3 (And.intro f4 (And.intro f5 (And.intro f6 (And.intro f7 (And.intro f8 (And.intro f9 (And.intro f10 (And.intro f11 (And.intro f12 (And.intro f13 (And.intro f14 (And.intro f15 (And.intro f16 (And.intro f17 (And.intro f18 (And.intro f19 f20))))))))))))))))))))))
                clear f0 f1 f2 f3 f4 f5 f6 f7 f8 f9 f10 f11 f12 f13 f14 f15 f16 f17 f18 f19 f20 hB hdp hl hd
                refine Opn.mk ?_
                dsimp only
                go_simp
                obtain ⟨hl, hB, f0, f1, f2, f3, f4, f5, f6, f7, f8, f9, f10, f11, f12, f13, f14, f15, f16, f17, f18, f19, f20⟩ := HF.out
                exact hK.out (x33, x34, x35, x36, x37, x38, x39, x40, x41, x42, x43, x44, .slice (some ⟨b, off, none⟩) n cap, x46, x47, x48, x49, x50, x51, x52, x53) _ (.inl ⟨by rw [upd_no (by decide)]; exact hl, hB.trans (Below.mono (Below.refl w'.heap.size w') hB.size), (fun h0 => by first | exact (f0 (upd_ne h0 (by decide))).up (Below.refl w'.heap.size w') | exact fun _ _ => rfl), (fun h1 => by first | exact (f1 (upd_ne h1 (by decide))).up (Below.refl w'.heap.size w') | exact fun _ _ => rfl), (fun h2 => by first | exact (f2 (upd_ne h2 (by decide))).up (Below.refl w'.heap.size w') | exact fun _ _ => rfl), (fun h3 => by first | exact (f3 (upd_ne h3 (by decide))).up (Below.refl w'.heap.size w') | exact fun _ _ => rfl), (fun h4 => by first | exact (f4 (upd_ne h4 (by decide))).up (Below.refl w'.heap.size w') | exact fun _ _ => rfl), (fun h5 => by first | exact (f5 (upd_ne h5 (by decide))).up (Below.refl w'.heap.size w') | exact fun _ _ => rfl), (fun h6 => by first | exact (f6 (upd_ne h6 (by decide))).up (Below.refl w'.heap.size w') | exact fun _ _ => rfl), (fun h7 => by first | exact (f7 (upd_ne h7 (by decide))).up (Below.refl w'.heap.size w') | exact fun _ _ => rfl), (fun h8 => by first | exact (f8 (upd_ne h8 (by decide))).up (Below.refl w'.heap.size w') | exact fun _ _ => rfl), (fun h9 => by first | exact (f9 (upd_ne h9 (by decide))).up (Below.refl w'.heap.size w') | exact fun _ _ => rfl), (fun h10 => by first | exact (f10 (upd_ne h10 (by decide))).up (Below.refl w'.heap.size w') | exact fun _ _ => rfl), (fun h11 => by first | exact (f11 (upd_ne h11 (by decide))).up (Below.refl w'.heap.size w') | exact fun _ _ => rfl), (fun _ => fun _ _ => rfl), (fun h13 => by first | exact (f13 (upd_ne h13 (by decide))).up (Below.refl w'.heap.size w') | exact fun _ _ => rfl), (fun h14 => by first | exact (f14 (upd_ne h14 (by decide))).up (Below.refl w'.heap.size w') | exact fun _ _ => rfl), (fun h15 => by first | exact (f15 (upd_ne h15 (by decide))).up (Below.refl w'.heap.size w') | exact fun _ _ => rfl), (fun h16 => by first | exact (f16 (upd_ne h16 (by decide))).up (Below.refl w'.heap.size w') | exact fun _ _ => rfl), (fun h17 => by first | exact (f17 (upd_ne h17 (by decide))).up (Below.refl w'.heap.size w') | exact fun _ _ => rfl), (fun h18 => by first | exact (f18 (upd_ne h18 (by decide))).up (Below.refl w'.heap.size w') | exact fun _ _ => rfl), (fun h19 => by first | exact (f19 (upd_ne h19 (by decide))).up (Below.refl w'.heap.size w') | exact fun _ _ => rfl), (fun h20 => by first | exact (f20 (upd_ne h20 (by decide))).up (Below.refl w'.heap.size w') | exact fun _ _ => rfl)⟩)
              · rintro d ⟨x33, x34, x35, x36, x37, x38, x39, x40, x41, x42, x43, x44, x45, x46, x47, x48, x49, x50, x51, x52, x53⟩ w' hI hd hdp K hK
                dsimp only at hI
                rcases hI with ⟨hl, hB, f0, f1, f2, f3, f4, f5, f6, f7, f8, f9, f10, f11, f12, f13, f14, f15, f16, f17, f18, f19, f20⟩ | ⟨hall, -⟩
                case inr => exact absurd (hall 13 (by decide)) (by rw [hd]; decide)
                skip
                have HF : Hid _ := (And.intro hl (And.intro hB (And.intro f0 (And.intro f1 (And.intro f2 (And.intro f3 (And.intro f4 (And.intro f5 (And.intro f6 (And.intro f7 (And.intro f8 (And.intro f9 (And.intro f10 (And.intro f11 (And.intro f12 (And.intro f13 (And.intro f14 (And.intro f15 (And.intro f16 (And.intro f17 (And.intro f18 (And.intro f19 f20))))))))))))))))))))))
                clear f0 f1 f2 f3 f4 f5 f6 f7 f8 f9 f10 f11 f12 f13 f14 f15 f16 f17 f18 f19 f20 hB hdp hl hd
                refine Opn.mk ?_
                dsimp only
                go_simp
                obtain ⟨hl, hB, f0, f1, f2, f3, f4, f5, f6, f7, f8, f9, f10, f11, f12, f13, f14, f15, f16, f17, f18, f19, f20⟩ := HF.out
                exact hK.out (x33, x34, x35, x36, x37, x38, x39, x40, x41, x42, x43, x44, x45, .int .i64 (i : Int), x47, x48, x49, x50, x51, x52, x53) _ (.inl ⟨by rw [upd_no (by decide)]; exact hl, hB.trans (Below.mono (Below.refl w'.heap.size w') hB.size), (fun h0 => by first | exact (f0 (upd_ne h0 (by decide))).up (Below.refl w'.heap.size w') | exact fun _ _ => rfl), (fun h1 => by first | exact (f1 (upd_ne h1 (by decide))).up (Below.refl w'.heap.size w') | exact fun _ _ => rfl), (fun h2 => by first | exact (f2 (upd_ne h2 (by decide))).up (Below.refl w'.heap.size w') | exact fun _ _ => rfl), (fun h3 => by first | exact (f3 (upd_ne h3 (by decide))).up (Below.refl w'.heap.size w') | exact fun _ _ => rfl), (fun h4 => by first | exact (f4 (upd_ne h4 (by decide))).up (Below.refl w'.heap.size w') | exact fun _ _ => rfl), (fun h5 => by first | exact (f5 (upd_ne h5 (by decide))).up (Below.refl w'.heap.size w') | exact fun _ _ => rfl), (fun h6 => by first | exact (f6 (upd_ne h6 (by decide))).up (Below.refl w'.heap.size w') | exact fun _ _ => rfl), (fun h7 => by first | exact (f7 (upd_ne h7 (by decide))).up (Below.refl w'.heap.size w') | exact fun _ _ => rfl), (fun h8 => by first | exact (f8 (upd_ne h8 (by decide))).up (Below.refl w'.heap.size w') | exact fun _ _ => rfl), (fun h9 => by first | exact (f9 (upd_ne h9 (by decide))).up (Below.refl w'.heap.size w') | exact fun _ _ => rfl), (fun h10 => by first | exact (f10 (upd_ne h10 (by decide))).up (Below.refl w'.heap.size w') | exact fun _ _ => rfl), (fun h11 => by first | exact (f11 (upd_ne h11 (by decide))).up (Below.refl w'.heap.size w') | exact fun _ _ => rfl), (fun h12 => by first | exact (f12 (upd_ne h12 (by decide))).up (Below.refl w'.heap.size w') | exact fun _ _ => rfl), (fun _ => fun _ _ => rfl), (fun h14 => by first | exact (f14 (upd_ne h14 (by decide))).up (Below.refl w'.heap.size w') | exact fun _ _ => rfl), (fun h15 => by first | exact (f15 (upd_ne h15 (by decide))).up (Below.refl w'.heap.size w') | exact fun _ _ => rfl), (fun h16 => by first | exact (f16 (upd_ne h16 (by decide))).up (Below.refl w'.heap.size w') | exact fun _ _ => rfl), (fun h17 => by first | exact (f17 (upd_ne h17 (by decide))).up (Below.refl w'.heap.size w') | exact fun _ _ => rfl), (fun h18 => by first | exact (f18 (upd_ne h18 (by decide))).up (Below.refl w'.heap.size w') | exact fun _ _ => rfl), (fun h19 => by first | exact (f19 (upd_ne h19 (by decide))).up (Below.refl w'.heap.size w') | exact fun _ _ => rfl), (fun h20 => by first | exact (f20 (upd_ne h20 (by decide))).up (Below.refl w'.heap.size w') | exact fun _ _ => rfl)⟩)
              · rintro d ⟨x33, x34, x35, x36, x37, x38, x39, x40, x41, x42, x43, x44, x45, x46, x47, x48, x49, x50, x51, x52, x53⟩ w' hI hd hdp K hK
                dsimp only at hI
                rcases hI with ⟨hl, hB, f0, f1, f2, f3, f4, f5, f6, f7, f8, f9, f10, f11, f12, f13, f14, f15, f16, f17, f18, f19, f20⟩ | ⟨hall, -⟩
                case inr => exact absurd (hall 14 (by decide)) (by rw [hd]; decide)
                obtain rfl := (f12 (hdp 12 (by decide +kernel))).now
                obtain rfl := (f13 (hdp 13 (by decide +kernel))).now
                have HF : Hid _ := (And.intro hl (And.intro hB (And.intro f0 (And.intro f1 (And.intro f2 (And.intro f3 (And.intro f4 (And.intro f5 (And.intro f6 (And.intro f7 (And.intro f8 (And.intro f9 (And.intro f10 (And.intro f11 (And.intro f12 (And.intro f13 (And.intro f14 (And.intro f15 (And.intro f16 (And.intro f17 (And.intro f18 (And.intro f19 f20))))))))))))))))))))))
                clear f0 f1 f2 f3 f4 f5 f6 f7 f8 f9 f10 f11 f12 f13 f14 f15 f16 f17 f18 f19 f20 hB hdp hl hd
                refine Opn.mk ?_
                dsimp only
                go_simp
                obtain ⟨hl, hB, f0, f1, f2, f3, f4, f5, f6, f7, f8, f9, f10, f11, f12, f13, f14, f15, f16, f17, f18, f19, f20⟩ := HF.out
                exact hK.out (x33, x34, x35, x36, x37, x38, x39, x40, x41, x42, x43, x44, .slice (some ⟨b, off, none⟩) n cap, .int .i64 (i : Int), .pointer (some ⟨b, off + i * 4, none⟩), x48, x49, x50, x51, x52, x53) _ (.inl ⟨by rw [upd_no (by decide)]; exact hl, hB.trans (Below.mono (Below.refl w'.heap.size w') hB.size), (fun h0 => by first | exact (f0 (upd_ne h0 (by decide))).up (Below.refl w'.heap.size w') | exact fun _ _ => rfl), (fun h1 => by first | exact (f1 (upd_ne h1 (by decide))).up (Below.refl w'.heap.size w') | exact fun _ _ => rfl), (fun h2 => by first | exact (f2 (upd_ne h2 (by decide))).up (Below.refl w'.heap.size w') | exact fun _ _ => rfl), (fun h3 => by first | exact (f3 (upd_ne h3 (by decide))).up (Below.refl w'.heap.size w') | exact fun _ _ => rfl), (fun h4 => by first | exact (f4 (upd_ne h4 (by decide))).up (Below.refl w'.heap.size w') | exact fun _ _ => rfl), (fun h5 => by first | exact (f5 (upd_ne h5 (by decide))).up (Below.refl w'.heap.size w') | exact fun _ _ => rfl), (fun h6 => by first | exact (f6 (upd_ne h6 (by decide))).up (Below.refl w'.heap.size w') | exact fun _ _ => rfl), (fun h7 => by first | exact (f7 (upd_ne h7 (by decide))).up (Below.refl w'.heap.size w') | exact fun _ _ => rfl), (fun h8 => by first | exact (f8 (upd_ne h8 (by decide))).up (Below.refl w'.heap.size w') | exact fun _ _ => rfl), (fun h9 => by first | exact (f9 (upd_ne h9 (by decide))).up (Below.refl w'.heap.size w') | exact fun _ _ => rfl), (fun h10 => by first | exact (f10 (upd_ne h10 (by decide))).up (Below.refl w'.heap.size w') | exact fun _ _ => rfl), (fun h11 => by first | exact (f11 (upd_ne h11 (by decide))).up (Below.refl w'.heap.size w') | exact fun _ _ => rfl), (fun h12 => by first | exact (f12 (upd_ne h12 (by decide))).up (Below.refl w'.heap.size w') | exact fun _ _ => rfl), (fun h13 => by first | exact (f13 (upd_ne h13 (by decide))).up (Below.refl w'.heap.size w') | exact fun _ _ => rfl), (fun _ => fun _ _ => rfl), (fun h15 => by first | exact (f15 (upd_ne h15 (by decide))).up (Below.refl w'.heap.size w') | exact fun _ _ => rfl), (fun h16 => by first | exact (f16 (upd_ne h16 (by decide))).up (Below.refl w'.heap.size w') | exact fun _ _ => rfl), (fun h17 => by first | exact (f17 (upd_ne h17 (by decide))).up (Below.refl w'.heap.size w') | exact fun _ _ => rfl), (fun h18 => by first | exact (f18 (upd_ne h18 (by decide))).up (Below.refl w'.heap.size w') | exact fun _ _ => rfl), (fun h19 => by first | exact (f19 (upd_ne h19 (by decide))).up (Below.refl w'.heap.size w') | exact fun _ _ => rfl), (fun h20 => by first | exact (f20 (upd_ne h20 (by decide))).up (Below.refl w'.heap.size w') | exact fun _ _ => rfl)⟩)
              · rintro d ⟨x33, x34, x35, x36, x37, x38, x39, x40, x41, x42, x43, x44, x45, x46, x47, x48, x49, x50, x51, x52, x53⟩ w' hI hd hdp K hK
                dsimp only at hI
                rcases hI with ⟨hl, hB, f0, f1, f2, f3, f4, f5, f6, f7, f8, f9, f10, f11, f12, f13, f14, f15, f16, f17, f18, f19, f20⟩ | ⟨hall, -⟩
                case inr => exact absurd (hall 15 (by decide)) (by rw [hd]; decide)
                obtain rfl := (f14 (hdp 14 (by decide +kernel))).now
                have HF : Hid _ := (And.intro hl (And.intro hB (And.intro f0 (And.intro f1 (And.intro f2 (And.intro f3 (And.intro f4 (And.intro f5 (And.intro f6 (And.intro f7 (And.intro f8 (And.intro f9 (And.intro f10 (And.intro f11 (And.intro f12 (And.intro f13 (And.intro f14 (And.intro f15 (And.intro f16 (And.intro f17 (And.intro f18 (And.intro f19 f20))))))))))))))))))))))
                clear f0 f1 f2 f3 f4 f5 f6 f7 f8 f9 f10 f11 f12 f13 f14 f15 f16 f17 f18 f19 f20 hB hdp hl hd
                refine Opn.mk ?_
                dsimp only
                go_simp
                obtain ⟨hl, hB, f0, f1, f2, f3, f4, f5, f6, f7, f8, f9, f10, f11, f12, f13, f14, f15, f16, f17, f18, f19, f20⟩ := HF.out
                exact hK.out (x33, x34, x35, x36, x37, x38, x39, x40, x41, x42, x43, x44, x45, x46, .pointer (some ⟨b, off + i * 4, none⟩), .pointer (some ⟨b, off + i * 4 + 3, none⟩), x49, x50, x51, x52, x53) _ (.inl ⟨by rw [upd_no (by decide)]; exact hl, hB.trans (Below.mono (Below.refl w'.heap.size w') hB.size), (fun h0 => by first | exact (f0 (upd_ne h0 (by decide))).up (Below.refl w'.heap.size w') | exact fun _ _ => rfl), (fun h1 => by first | exact (f1 (upd_ne h1 (by decide))).up (Below.refl w'.heap.size w') | exact fun _ _ => rfl), (fun h2 => by first | exact (f2 (upd_ne h2 (by decide))).up (Below.refl w'.heap.size w') | exact fun _ _ => rfl), (fun h3 => by first | exact (f3 (upd_ne h3 (by decide))).up (Below.refl w'.heap.size w') | exact fun _ _ => rfl), (fun h4 => by first | exact (f4 (upd_ne h4 (by decide))).up (Below.refl w'.heap.size w') | exact fun _ _ => rfl), (fun h5 => by first | exact (f5 (upd_ne h5 (by decide))).up (Below.refl w'.heap.size w') | exact fun _ _ => rfl), (fun h6 => by first | exact (f6 (upd_ne h6 (by decide))).up (Below.refl w'.heap.size w') | exact fun _ _ => rfl), (fun h7 => by first | exact (f7 (upd_ne h7 (by decide))).up (Below.refl w'.heap.size w') | exact fun _ _ => rfl), (fun h8 => by first | exact (f8 (upd_ne h8 (by decide))).up (Below.refl w'.heap.size w') | exact fun _ _ => rfl), (fun h9 => by first | exact (f9 (upd_ne h9 (by decide))).up (Below.refl w'.heap.size w') | exact fun _ _ => rfl), (fun h10 => by first | exact (f10 (upd_ne h10 (by decide))).up (Below.refl w'.heap.size w') | exact fun _ _ => rfl), (fun h11 => by first | exact (f11 (upd_ne h11 (by decide))).up (Below.refl w'.heap.size w') | exact fun _ _ => rfl), (fun h12 => by first | exact (f12 (upd_ne h12 (by decide))).up (Below.refl w'.heap.size w') | exact fun _ _ => rfl), (fun h13 => by first | exact (f13 (upd_ne h13 (by decide))).up (Below.refl w'.heap.size w') | exact fun _ _ => rfl), (fun h14 => by first | exact (f14 (upd_ne h14 (by decide))).up (Below.refl w'.heap.size w') | exact fun _ _ => rfl), (fun _ => fun _ _ => rfl), (fun h16 => by first | exact (f16 (upd_ne h16 (by decide))).up (Below.refl w'.heap.size w') | exact fun _ _ => rfl), (fun h17 => by first | exact (f17 (upd_ne h17 (by decide))).up (Below.refl w'.heap.size w') | exact fun _ _ => rfl), (fun h18 => by first | exact (f18 (upd_ne h18 (by decide))).up (Below.refl w'.heap.size w') | exact fun _ _ => rfl), (fun h19 => by first | exact (f19 (upd_ne h19 (by decide))).up (Below.refl w'.heap.size w') | exact fun _ _ => rfl), (fun h20 => by first | exact (f20 (upd_ne h20 (by decide))).up (Below.refl w'.heap.size w') | exact fun _ _ => rfl)⟩)
              · rintro d ⟨x33, x34, x35, x36, x37, x38, x39, x40, x41, x42, x43, x44, x45, x46, x47, x48, x49, x50, x51, x52, x53⟩ w' hI hd hdp K hK
                dsimp only at hI
                rcases hI with ⟨hl, hB, f0, f1, f2, f3, f4, f5, f6, f7, f8, f9, f10, f11, f12, f13, f14, f15, f16, f17, f18, f19, f20⟩ | ⟨hall, -⟩
                case inr => exact absurd (hall 16 (by decide)) (by rw [hd]; decide)
                obtain rfl := (f15 (hdp 15 (by decide +kernel))).now
                have c0 := cell_up hB t3
                have HF : Hid _ := (And.intro hl (And.intro hB (And.intro f0 (And.intro f1 (And.intro f2 (And.intro f3 (And.intro f4 (And.intro f5 (And.intro f6 (And.intro f7 (And.intro f8 (And.intro f9 (And.intro f10 (And.intro f11 (And.intro f12 (And.intro f13 (And.intro f14 (And.intro f15 (And.intro f16 (And.intro f17 (And.intro f18 (And.intro f19 f20))))))))))))))))))))))
                clear f0 f1 f2 f3 f4 f5 f6 f7 f8 f9 f10 f11 f12 f13 f14 f15 f16 f17 f18 f19 f20 hB hdp hl hd
                refine Opn.mk ?_
                dsimp only
                go_simp
                obtain ⟨hl, hB, f0, f1, f2, f3, f4, f5, f6, f7, f8, f9, f10, f11, f12, f13, f14, f15, f16, f17, f18, f19, f20⟩ := HF.out
                exact hK.out (x33, x34, x35, x36, x37, x38, x39, x40, x41, x42, x43, x44, x45, x46, x47, .pointer (some ⟨b, off + i * 4 + 3, none⟩), .int .u64 (nn : Int), x50, x51, x52, x53) _ (.inl ⟨by rw [upd_no (by decide)]; exact hl, hB.trans (Below.mono (Below.refl w'.heap.size w') hB.size), (fun h0 => by first | exact (f0 (upd_ne h0 (by decide))).up (Below.refl w'.heap.size w') | exact fun _ _ => rfl), (fun h1 => by first | exact (f1 (upd_ne h1 (by decide))).up (Below.refl w'.heap.size w') | exact fun _ _ => rfl), (fun h2 => by first | exact (f2 (upd_ne h2 (by decide))).up (Below.refl w'.heap.size w') | exact fun _ _ => rfl), (fun h3 => by first | exact (f3 (upd_ne h3 (by decide))).up (Below.refl w'.heap.size w') | exact fun _ _ => rfl), (fun h4 => by first | exact (f4 (upd_ne h4 (by decide))).up (Below.refl w'.heap.size w') | exact fun _ _ => rfl), (fun h5 => by first | exact (f5 (upd_ne h5 (by decide))).up (Below.refl w'.heap.size w') | exact fun _ _ => rfl), (fun h6 => by first | exact (f6 (upd_ne h6 (by decide))).up (Below.refl w'.heap.size w') | exact fun _ _ => rfl), (fun h7 => by first | exact (f7 (upd_ne h7 (by decide))).up (Below.refl w'.heap.size w') | exact fun _ _ => rfl), (fun h8 => by first | exact (f8 (upd_ne h8 (by decide))).up (Below.refl w'.heap.size w') | exact fun _ _ => rfl), (fun h9 => by first | exact (f9 (upd_ne h9 (by decide))).up (Below.refl w'.heap.size w') | exact fun _ _ => rfl), (fun h10 => by first | exact (f10 (upd_ne h10 (by decide))).up (Below.refl w'.heap.size w') | exact fun _ _ => rfl), (fun h11 => by first | exact (f11 (upd_ne h11 (by decide))).up (Below.refl w'.heap.size w') | exact fun _ _ => rfl), (fun h12 => by first | exact (f12 (upd_ne h12 (by decide))).up (Below.refl w'.heap.size w') | exact fun _ _ => rfl), (fun h13 => by first | exact (f13 (upd_ne h13 (by decide))).up (Below.refl w'.heap.size w') | exact fun _ _ => rfl), (fun h14 => by first | exact (f14 (upd_ne h14 (by decide))).up (Below.refl w'.heap.size w') | exact fun _ _ => rfl), (fun h15 => by first | exact (f15 (upd_ne h15 (by decide))).up (Below.refl w'.heap.size w') | exact fun _ _ => rfl), (fun _ => fun _ _ => rfl), (fun h17 => by first | exact (f17 (upd_ne h17 (by decide))).up (Below.refl w'.heap.size w') | exact fun _ _ => rfl), (fun h18 => by first | exact (f18 (upd_ne h18 (by decide))).up (Below.refl w'.heap.size w') | exact fun _ _ => rfl), (fun h19 => by first | exact (f19 (upd_ne h19 (by decide))).up (Below.refl w'.heap.size w') | exact fun _ _ => rfl), (fun h20 => by first | exact (f20 (upd_ne h20 (by decide))).up (Below.refl w'.heap.size w') | exact fun _ _ => rfl)⟩)
              · rintro d ⟨x33, x34, x35, x36, x37, x38, x39, x40, x41, x42, x43, x44, x45, x46, x47, x48, x49, x50, x51, x52, x53⟩ w' hI hd hdp K hK
                dsimp only at hI
                rcases hI with ⟨hl, hB, f0, f1, f2, f3, f4, f5, f6, f7, f8, f9, f10, f11, f12, f13, f14, f15, f16, f17, f18, f19, f20⟩ | ⟨hall, -⟩
                case inr => exact absurd (hall 17 (by decide)) (by rw [hd]; decide)
                obtain rfl := (f16 (hdp 16 (by decide +kernel))).now
                have HF : Hid _ := (And.intro hl (And.intro hB (And.intro f0 (And.intro f1 (And.intro f2 (And.intro f3 (And.intro f4 (And.intro f5 (And.intro f6 (And.intro f7 (And.intro f8 (And.intro f9 (And.intro f10 (And.intro f11 (And.intro f12 (And.intro f13 (And.intro f14 (And.intro f15 (And.intro f16 (And.intro f17 (And.intro f18 (And.intro f19 f20))))))))))))))))))))))
                clear f0 f1 f2 f3 f4 f5 f6 f7 f8 f9 f10 f11 f12 f13 f14 f15 f16 f17 f18 f19 f20 hB hdp hl hd
                refine Opn.mk ?_
                dsimp only
                go_simp
                obtain ⟨hl, hB, f0, f1, f2, f3, f4, f5, f6, f7, f8, f9, f10, f11, f12, f13, f14, f15, f16, f17, f18, f19, f20⟩ := HF.out
                exact hK.out (x33, x34, x35, x36, x37, x38, x39, x40, x41, x42, x43, x44, x45, x46, x47, x48, .int .u64 (nn : Int), .int .i64 (IntKind.i64.wrap (nn : Int)), x51, x52, x53) _ (.inl ⟨by rw [upd_no (by decide)]; exact hl, hB.trans (Below.mono (Below.refl w'.heap.size w') hB.size), (fun h0 => by first | exact (f0 (upd_ne h0 (by decide))).up (Below.refl w'.heap.size w') | exact fun _ _ => rfl), (fun h1 => by first | exact (f1 (upd_ne h1 (by decide))).up (Below.refl w'.heap.size w') | exact fun _ _ => rfl), (fun h2 => by first | exact (f2 (upd_ne h2 (by decide))).up (Below.refl w'.heap.size w') | exact fun _ _ => rfl), (fun h3 => by first | exact (f3 (upd_ne h3 (by decide))).up (Below.refl w'.heap.size w') | exact fun _ _ => rfl), (fun h4 => by first | exact (f4 (upd_ne h4 (by decide))).up (Below.refl w'.heap.size w') | exact fun _ _ => rfl), (fun h5 => by first | exact (f5 (upd_ne h5 (by decide))).up (Below.refl w'.heap.size w') | exact fun _ _ => rfl), (fun h6 => by first | exact (f6 (upd_ne h6 (by decide))).up (Below.refl w'.heap.size w') | exact fun _ _ => rfl), (fun h7 => by first | exact (f7 (upd_ne h7 (by decide))).up (Below.refl w'.heap.size w') | exact fun _ _ => rfl), (fun h8 => by first | exact (f8 (upd_ne h8 (by decide))).up (Below.refl w'.heap.size w') | exact fun _ _ => rfl), (fun h9 => by first | exact (f9 (upd_ne h9 (by decide))).up (Below.refl w'.heap.size w') | exact fun _ _ => rfl), (fun h10 => by first | exact (f10 (upd_ne h10 (by decide))).up (Below.refl w'.heap.size w') | exact fun _ _ => rfl), (fun h11 => by first | exact (f11 (upd_ne h11 (by decide))).up (Below.refl w'.heap.size w') | exact fun _ _ => rfl), (fun h12 => by first | exact (f12 (upd_ne h12 (by decide))).up (Below.refl w'.heap.size w') | exact fun _ _ => rfl), (fun h13 => by first | exact (f13 (upd_ne h13 (by decide))).up (Below.refl w'.heap.size w') | exact fun _ _ => rfl), (fun h14 => by first | exact (f14 (upd_ne h14 (by decide))).up (Below.refl w'.heap.size w') | exact fun _ _ => rfl), (fun h15 => by first | exact (f15 (upd_ne h15 (by decide))).up (Below.refl w'.heap.size w') | exact fun _ _ => rfl), (fun h16 => by first | exact (f16 (upd_ne h16 (by decide))).up (Below.refl w'.heap.size w') | exact fun _ _ => rfl), (fun _ => fun _ _ => rfl), (fun h18 => by first | exact (f18 (upd_ne h18 (by decide))).up (Below.refl w'.heap.size w') | exact fun _ _ => rfl), (fun h19 => by first | exact (f19 (upd_ne h19 (by decide))).up (Below.refl w'.heap.size w') | exact fun _ _ => rfl), (fun h20 => by first | exact (f20 (upd_ne h20 (by decide))).up (Below.refl w'.heap.size w') | exact fun _ _ => rfl)⟩)
              · rintro d ⟨x33, x34, x35, x36, x37, x38, x39, x40, x41, x42, x43, x44, x45, x46, x47, x48, x49, x50, x51, x52, x53⟩ w' hI hd hdp K hK
                dsimp only at hI
                rcases hI with ⟨hl, hB, f0, f1, f2, f3, f4, f5, f6, f7, f8, f9, f10, f11, f12, f13, f14, f15, f16, f17, f18, f19, f20⟩ | ⟨hall, -⟩
                case inr => exact absurd (hall 18 (by decide)) (by rw [hd]; decide)
                obtain rfl := (f11 (hdp 11 (by decide +kernel))).now
                obtain rfl := (f17 (hdp 17 (by decide +kernel))).now
                have HF : Hid _ := (And.intro hl (And.intro hB (And.intro f0 (And.intro f1 (And.intro f2 (And.intro f3 (And.intro f4 (And.intro f5 (And.intro f6 (And.intro f7 (And.intro f8 (And.intro f9 (And.intro f10 (And.intro f11 (And.intro f12 (And.intro f13 (And.intro f14 (And.intro f15 (And.intro f16 (And.intro f17 (And.intro f18 (And.intro f19 f20))))))))))))))))))))))
                clear f0 f1 f2 f3 f4 f5 f6 f7 f8 f9 f10 f11 f12 f13 f14 f15 f16 f17 f18 f19 f20 hB hdp hl hd
                refine Opn.mk ?_
                dsimp only
                go_simp
                obtain ⟨hl, hB, f0, f1, f2, f3, f4, f5, f6, f7, f8, f9, f10, f11, f12, f13, f14, f15, f16, f17, f18, f19, f20⟩ := HF.out
                exact hK.out (x33, x34, x35, x36, x37, x38, x39, x40, x41, x42, x43, .int .i64 mm, x45, x46, x47, x48, x49, .int .i64 (IntKind.i64.wrap (nn : Int)), .int .i64 (IntKind.i64.wrap (mm * IntKind.i64.wrap (nn : Int))), x52, x53) _ (.inl ⟨by rw [upd_no (by decide)]; exact hl, hB.trans (Below.mono (Below.refl w'.heap.size w') hB.size), (fun h0 => by first | exact (f0 (upd_ne h0 (by decide))).up (Below.refl w'.heap.size w') | exact fun _ _ => rfl), (fun h1 => by first | exact (f1 (upd_ne h1 (by decide))).up (Below.refl w'.heap.size w') | exact fun _ _ => rfl), (fun h2 => by first | exact (f2 (upd_ne h2 (by decide))).up (Below.refl w'.heap.size w') | exact fun _ _ => rfl), (fun h3 => by first | exact (f3 (upd_ne h3 (by decide))).up (Below.refl w'.heap.size w') | exact fun _ _ => rfl), (fun h4 => by first | exact (f4 (upd_ne h4 (by decide))).up (Below.refl w'.heap.size w') | exact fun _ _ => rfl), (fun h5 => by first | exact (f5 (upd_ne h5 (by decide))).up (Below.refl w'.heap.size w') | exact fun _ _ => rfl), (fun h6 => by first | exact (f6 (upd_ne h6 (by decide))).up (Below.refl w'.heap.size w') | exact fun _ _ => rfl), (fun h7 => by first | exact (f7 (upd_ne h7 (by decide))).up (Below.refl w'.heap.size w') | exact fun _ _ => rfl), (fun h8 => by first | exact (f8 (upd_ne h8 (by decide))).up (Below.refl w'.heap.size w') | exact fun _ _ => rfl), (fun h9 => by first | exact (f9 (upd_ne h9 (by decide))).up (Below.refl w'.heap.size w') | exact fun _ _ => rfl), (fun h10 => by first | exact (f10 (upd_ne h10 (by decide))).up (Below.refl w'.heap.size w') | exact fun _ _ => rfl), (fun h11 => by first | exact (f11 (upd_ne h11 (by decide))).up (Below.refl w'.heap.size w') | exact fun _ _ => rfl), (fun h12 => by first | exact (f12 (upd_ne h12 (by decide))).up (Below.refl w'.heap.size w') | exact fun _ _ => rfl), (fun h13 => by first | exact (f13 (upd_ne h13 (by decide))).up (Below.refl w'.heap.size w') | exact fun _ _ => rfl), (fun h14 => by first | exact (f14 (upd_ne h14 (by decide))).up (Below.refl w'.heap.size w') | exact fun _ _ => rfl), (fun h15 => by first | exact (f15 (upd_ne h15 (by decide))).up (Below.refl w'.heap.size w') | exact fun _ _ => rfl), (fun h16 => by first | exact (f16 (upd_ne h16 (by decide))).up (Below.refl w'.heap.size w') | exact fun _ _ => rfl), (fun h17 => by first | exact (f17 (upd_ne h17 (by decide))).up (Below.refl w'.heap.size w') | exact fun _ _ => rfl), (fun _ => fun _ _ => rfl), (fun h19 => by first | exact (f19 (upd_ne h19 (by decide))).up (Below.refl w'.heap.size w') | exact fun _ _ => rfl), (fun h20 => by first | exact (f20 (upd_ne h20 (by decide))).up (Below.refl w'.heap.size w') | exact fun _ _ => rfl)⟩)
              · rintro d ⟨x33, x34, x35, x36, x37, x38, x39, x40, x41, x42, x43, x44, x45, x46, x47, x48, x49, x50, x51, x52, x53⟩ w' hI hd hdp K hK
                dsimp only at hI
                rcases hI with ⟨hl, hB, f0, f1, f2, f3, f4, f5, f6, f7, f8, f9, f10, f11, f12, f13, f14, f15, f16, f17, f18, f19, f20⟩ | ⟨hall, -⟩
                case inr => exact absurd (hall 19 (by decide)) (by rw [hd]; decide)
                obtain rfl := (f1 (hdp 1 (by decide +kernel))).now
                obtain rfl := (f18 (hdp 18 (by decide +kernel))).now
                have HF : Hid _ := (And.intro hl (And.intro hB (And.intro f0 (And.intro f1 (And.intro f2 (And.intro f3 (And.intro f4 (And.intro f5 (And.intro f6 (And.intro f7 (And.intro f8 (And.intro f9 (And.intro f10 (And.intro f11 (And.intro f12 (And.intro f13 (And.intro f14 (And.intro f15 (And.intro f16 (And.intro f17 (And.intro f18 (And.intro f19 f20))))))))))))))))))))))
                clear f0 f1 f2 f3 f4 f5 f6 f7 f8 f9 f10 f11 f12 f13 f14 f15 f16 f17 f18 f19 f20 hB hdp hl hd
                refine Opn.mk ?_
                dsimp only
                go_simp
                obtain ⟨hl, hB, f0, f1, f2, f3, f4, f5, f6, f7, f8, f9, f10, f11, f12, f13, f14, f15, f16, f17, f18, f19, f20⟩ := HF.out
                exact hK.out (x33, .int .i64 rv, x35, x36, x37, x38, x39, x40, x41, x42, x43, x44, x45, x46, x47, x48, x49, x50, .int .i64 (IntKind.i64.wrap (mm * IntKind.i64.wrap (nn : Int))), .int .i64 (IntKind.i64.wrap (rv + IntKind.i64.wrap (mm * IntKind.i64.wrap (nn : Int)))), x53) _ (.inl ⟨by rw [upd_no (by decide)]; exact hl, hB.trans (Below.mono (Below.refl w'.heap.size w') hB.size), (fun h0 => by first | exact (f0 (upd_ne h0 (by decide))).up (Below.refl w'.heap.size w') | exact fun _ _ => rfl), (fun h1 => by first | exact (f1 (upd_ne h1 (by decide))).up (Below.refl w'.heap.size w') | exact fun _ _ => rfl), (fun h2 => by first | exact (f2 (upd_ne h2 (by decide))).up (Below.refl w'.heap.size w') | exact fun _ _ => rfl), (fun h3 => by first | exact (f3 (upd_ne h3 (by decide))).up (Below.refl w'.heap.size w') | exact fun _ _ => rfl), (fun h4 => by first | exact (f4 (upd_ne h4 (by decide))).up (Below.refl w'.heap.size w') | exact fun _ _ => rfl), (fun h5 => by first | exact (f5 (upd_ne h5 (by decide))).up (Below.refl w'.heap.size w') | exact fun _ _ => rfl), (fun h6 => by first | exact (f6 (upd_ne h6 (by decide))).up (Below.refl w'.heap.size w') | exact fun _ _ => rfl), (fun h7 => by first | exact (f7 (upd_ne h7 (by decide))).up (Below.refl w'.heap.size w') | exact fun _ _ => rfl), (fun h8 => by first | exact (f8 (upd_ne h8 (by decide))).up (Below.refl w'.heap.size w') | exact fun _ _ => rfl), (fun h9 => by first | exact (f9 (upd_ne h9 (by decide))).up (Below.refl w'.heap.size w') | exact fun _ _ => rfl), (fun h10 => by first | exact (f10 (upd_ne h10 (by decide))).up (Below.refl w'.heap.size w') | exact fun _ _ => rfl), (fun h11 => by first | exact (f11 (upd_ne h11 (by decide))).up (Below.refl w'.heap.size w') | exact fun _ _ => rfl), (fun h12 => by first | exact (f12 (upd_ne h12 (by decide))).up (Below.refl w'.heap.size w') | exact fun _ _ => rfl), (fun h13 => by first | exact (f13 (upd_ne h13 (by decide))).up (Below.refl w'.heap.size w') | exact fun _ _ => rfl), (fun h14 => by first | exact (f14 (upd_ne h14 (by decide))).up (Below.refl w'.heap.size w') | exact fun _ _ => rfl), (fun h15 => by first | exact (f15 (upd_ne h15 (by decide))).up (Below.refl w'.heap.size w') | exact fun _ _ => rfl), (fun h16 => by first | exact (f16 (upd_ne h16 (by decide))).up (Below.refl w'.heap.size w') | exact fun _ _ => rfl), (fun h17 => by first | exact (f17 (upd_ne h17 (by decide))).up (Below.refl w'.heap.size w') | exact fun _ _ => rfl), (fun h18 => by first | exact (f18 (upd_ne h18 (by decide))).up (Below.refl w'.heap.size w') | exact fun _ _ => rfl), (fun _ => fun _ _ => rfl), (fun h20 => by first | exact (f20 (upd_ne h20 (by decide))).up (Below.refl w'.heap.size w') | exact fun _ _ => rfl)⟩)
              · rintro d ⟨x33, x34, x35, x36, x37, x38, x39, x40, x41, x42, x43, x44, x45, x46, x47, x48, x49, x50, x51, x52, x53⟩ w' hI hd hdp K hK
                dsimp only at hI
                rcases hI with ⟨hl, hB, f0, f1, f2, f3, f4, f5, f6, f7, f8, f9, f10, f11, f12, f13, f14, f15, f16, f17, f18, f19, f20⟩ | ⟨hall, -⟩
                case inr => exact absurd (hall 20 (by decide)) (by rw [hd]; decide)
                skip
                have HF : Hid _ := (And.intro hl (And.intro hB (And.intro f0 (And.intro f1 (And.intro f2 (And.intro f3 (And.intro f4 (And.intro f5 (And.intro f6 (And.intro f7 (And.intro f8 (And.intro f9 (And.intro f10 (And.intro f11 (And.intro f12 (And.intro f13 (And.intro f14 (And.intro f15 (And.intro f16 (And.intro f17 (And.intro f18 (And.intro f19 f20))))))))))))))))))))))
                clear f0 f1 f2 f3 f4 f5 f6 f7 f8 f9 f10 f11 f12 f13 f14 f15 f16 f17 f18 f19 f20 hB hdp hl hd
                refine Opn.mk ?_
                dsimp only
                go_simp
                obtain ⟨hl, hB, f0, f1, f2, f3, f4, f5, f6, f7, f8, f9, f10, f11, f12, f13, f14, f15, f16, f17, f18, f19, f20⟩ := HF.out
                exact hK.out (x33, x34, x35, x36, x37, x38, x39, x40, x41, x42, x43, x44, x45, x46, x47, x48, x49, x50, x51, x52, .pointer (some ⟨B5, 1, none⟩)) _ (.inl ⟨by rw [upd_no (by decide)]; exact hl, hB.trans (Below.mono (Below.refl w'.heap.size w') hB.size), (fun h0 => by first | exact (f0 (upd_ne h0 (by decide))).up (Below.refl w'.heap.size w') | exact fun _ _ => rfl), (fun h1 => by first | exact (f1 (upd_ne h1 (by decide))).up (Below.refl w'.heap.size w') | exact fun _ _ => rfl), (fun h2 => by first | exact (f2 (upd_ne h2 (by decide))).up (Below.refl w'.heap.size w') | exact fun _ _ => rfl), (fun h3 => by first | exact (f3 (upd_ne h3 (by decide))).up (Below.refl w'.heap.size w') | exact fun _ _ => rfl), (fun h4 => by first | exact (f4 (upd_ne h4 (by decide))).up (Below.refl w'.heap.size w') | exact fun _ _ => rfl), (fun h5 => by first | exact (f5 (upd_ne h5 (by decide))).up (Below.refl w'.heap.size w') | exact fun _ _ => rfl), (fun h6 => by first | exact (f6 (upd_ne h6 (by decide))).up (Below.refl w'.heap.size w') | exact fun _ _ => rfl), (fun h7 => by first | exact (f7 (upd_ne h7 (by decide))).up (Below.refl w'.heap.size w') | exact fun _ _ => rfl), (fun h8 => by first | exact (f8 (upd_ne h8 (by decide))).up (Below.refl w'.heap.size w') | exact fun _ _ => rfl), (fun h9 => by first | exact (f9 (upd_ne h9 (by decide))).up (Below.refl w'.heap.size w') | exact fun _ _ => rfl), (fun h10 => by first | exact (f10 (upd_ne h10 (by decide))).up (Below.refl w'.heap.size w') | exact fun _ _ => rfl), (fun h11 => by first | exact (f11 (upd_ne h11 (by decide))).up (Below.refl w'.heap.size w') | exact fun _ _ => rfl), (fun h12 => by first | exact (f12 (upd_ne h12 (by decide))).up (Below.refl w'.heap.size w') | exact fun _ _ => rfl), (fun h13 => by first | exact (f13 (upd_ne h13 (by decide))).up (Below.refl w'.heap.size w') | exact fun _ _ => rfl), (fun h14 => by first | exact (f14 (upd_ne h14 (by decide))).up (Below.refl w'.heap.size w') | exact fun _ _ => rfl), (fun h15 => by first | exact (f15 (upd_ne h15 (by decide))).up (Below.refl w'.heap.size w') | exact fun _ _ => rfl), (fun h16 => by first | exact (f16 (upd_ne h16 (by decide))).up (Below.refl w'.heap.size w') | exact fun _ _ => rfl), (fun h17 => by first | exact (f17 (upd_ne h17 (by decide))).up (Below.refl w'.heap.size w') | exact fun _ _ => rfl), (fun h18 => by first | exact (f18 (upd_ne h18 (by decide))).up (Below.refl w'.heap.size w') | exact fun _ _ => rfl), (fun h19 => by first | exact (f19 (upd_ne h19 (by decide))).up (Below.refl w'.heap.size w') | exact fun _ _ => rfl), (fun _ => fun _ _ => rfl)⟩)
              · rintro d ⟨x33, x34, x35, x36, x37, x38, x39, x40, x41, x42, x43, x44, x45, x46, x47, x48, x49, x50, x51, x52, x53⟩ w' hI hd hdp K hK
                dsimp only at hI
                rcases hI with ⟨hl, hB, f0, f1, f2, f3, f4, f5, f6, f7, f8, f9, f10, f11, f12, f13, f14, f15, f16, f17, f18, f19, f20⟩ | ⟨hall, -⟩
                case inr => exact absurd (hall 21 (by decide)) (by rw [hd]; decide)
                have hall : ∀ j, j < 22 → upd d 21 j = true := fun j hj => by
                  rcases (by omega : j = 0 ∨ j = 1 ∨ j = 2 ∨ j = 3 ∨ j = 4 ∨ j = 5 ∨ j = 6 ∨ j = 7 ∨ j = 8 ∨ j = 9 ∨ j = 10 ∨ j = 11 ∨ j = 12 ∨ j = 13 ∨ j = 14 ∨ j = 15 ∨ j = 16 ∨ j = 17 ∨ j = 18 ∨ j = 19 ∨ j = 20 ∨ j = 21) with rfl | rfl | rfl | rfl | rfl | rfl | rfl | rfl | rfl | rfl | rfl | rfl | rfl | rfl | rfl | rfl | rfl | rfl | rfl | rfl | rfl | rfl
                  all_goals first | rfl | (rw [upd_no (by decide)]; exact hdp _ (by decide +kernel))
                obtain rfl := (f20 (hdp 20 (by decide +kernel))).now
                obtain rfl := (f19 (hdp 19 (by decide +kernel))).now
                obtain ⟨c0, c1, c2, cf⟩ := bx.up hB
                have HH : Hid _ := hall
                clear hall
                have HF : Hid _ := (And.intro hl (And.intro hB (And.intro f0 (And.intro f1 (And.intro f2 (And.intro f3 (And.intro f4 (And.intro f5 (And.intro f6 (And.intro f7 (And.intro f8 (And.intro f9 (And.intro f10 (And.intro f11 (And.intro f12 (And.intro f13 (And.intro f14 (And.intro f15 (And.intro f16 (And.intro f17 (And.intro f18 (And.intro f19 f20))))))))))))))))))))))
                clear f0 f1 f2 f3 f4 f5 f6 f7 f8 f9 f10 f11 f12 f13 f14 f15 f16 f17 f18 f19 f20 hB hdp hl hd
                refine Opn.mk ?_
                dsimp only
                go_simp
                obtain ⟨hl, hB, f0, f1, f2, f3, f4, f5, f6, f7, f8, f9, f10, f11, f12, f13, f14, f15, f16, f17, f18, f19, f20⟩ := HF.out
                exact hK.out (x33, x34, x35, x36, x37, x38, x39, x40, x41, x42, x43, x44, x45, x46, x47, x48, x49, x50, x51, .int .i64 (IntKind.i64.wrap (rv + IntKind.i64.wrap (mm * IntKind.i64.wrap (nn : Int)))), .pointer (some ⟨B5, 1, none⟩)) _ (.inr ⟨HH.out, w', hB, rfl⟩)
            case he33 =>
              rintro d ⟨x33, x34, x35, x36, x37, x38, x39, x40, x41, x42, x43, x44, x45, x46, x47, x48, x49, x50, x51, x52, x53⟩ w' hall hI
              dsimp only at hI
              rcases hI with ⟨hl, -⟩ | ⟨-, X, bX, hX⟩
              · exact absurd (hall 21 (by decide)) (by rw [hl]; decide)
              have HX : Hid (∃ r : Pt, Box3 w' B5 (.int .u64 r.n) (.int .i64 r.v) r.tv ∧ r.Ok w' ∧ r.p0 = (l.take (i + 1)).foldl (rstep k (cc : Int)) U0 ∧ New (B5 + 1) r.tv ∧ Below W1.heap.size W1 w') := stV.out _ X w' bX hX (by rw [HJ.out, if_pos HK2.out, if_neg (by rw [HK2.out]; decide : ¬ k = 5)]; simp only [IntWalk.i64_left])
              clear hall hX bX
              dsimp only
              go_wp2_with fail
              go_roundg (n - (i + 1))
              case measure => omega
              case rel => exact ⟨i + 1, by go_num, HF.out, by omega, Nat.le_refl _, HX⟩
          · have hk2b : (k == 2) = false := by simp [hk2]
            by_cases hk3 : k = 3
            · have hk3b : (k == 3) = true := by simp [hk3]
              have HK3 : Hid (k = 3) := hk3
              clear hk2 hk3 kPut _hk15
              by_cases hr0 : rn = 0
              · have hr0b : decide (rn = 0) = true := by simp [hr0]
                have HR0 : Hid (rn = 0) := hr0
                rw [hr0b]
                obtain ⟨c0', c1', c2', -⟩ := bx
                have bx : Box3 wB B5 (.int .u64 (IntKind.u64.wrap (rn + (nn : Int)))) (.int .i64 rv) (.slice ra rl rc) := HB7.out.1
                clear hr0 hr0b
                go_wp2_with fail
                go_quiet (fail)
                go_wp2_with fail
                obtain ⟨wD, hwD⟩ : ∃ wD, wD = wB.drewN nq := ⟨_, rfl⟩
                have HWD : Hid (Below wB.heap.size wB wD) := by rw [hwD]; exact below_dN (Below.refl _ _) _
                rw [← hwD]
                replace t2 := cell_up HWD.out t2
                replace q1 := cell_up HWD.out q1
                replace tm := cell_up HWD.out tm
                replace bx := bx.up HWD.out
                clear hwD
                have hkeep : ∀ X : World, X = wD.drew ∨ X = (wD.setCell ⟨B5, 1, none⟩ (.int .i64 mm)).drew → (fun X : World => X.cell? ⟨b, off + i * 4 + 2, none⟩ = some (.slice (some ⟨bm, om, none⟩) 2 cm) ∧ X.cell? ⟨w.heap.size, 1, none⟩ = some (.int .i64 (cc : Int)) ∧ X.cell? ⟨bm, om + cc, none⟩ = some (.int .i64 mm)) X := by
                  obtain ⟨l1, -, l3, l4⟩ := HLT.out
                  have l5 := HB5.out
                  rintro X (rfl | rfl)
                  · exact ⟨t2, q1, tm⟩
                  · refine ⟨?_, ?_, ?_⟩
                    · show World.cell? (World.setCell _ _ _) _ = _
                      rw [World.cell?_setCell_far _ _ _ _ (by show B5 ≠ b; omega)]; exact t2
                    · show World.cell? (World.setCell _ _ _) _ = _
                      rw [World.cell?_setCell_far _ _ _ _ (by show B5 ≠ w.heap.size; omega)]; exact q1
                    · show World.cell? (World.setCell _ _ _) _ = _
                      rw [World.cell?_setCell_far _ _ _ _ (by show B5 ≠ bm; omega)]; exact tm
                have HX : Hid _ := up_drew (stV.out mm wD _ HWD.out rfl (by rw [HJ.out, HK3.out]; simp only [show ¬ ((3 : Int) = 2) by decide, show ¬ ((3 : Int) = 5) by decide, if_false, if_true]; rw [if_pos (.inl HR0.out)]))
                obtain ⟨c0, c1, c2, cf⟩ := bx
                go_region_held (fun X : World => X.cell? ⟨b, off + i * 4 + 2, none⟩ = some (.slice (some ⟨bm, om, none⟩) 2 cm) ∧ X.cell? ⟨w.heap.size, 1, none⟩ = some (.int .i64 (cc : Int)) ∧ X.cell? ⟨bm, om + cc, none⟩ = some (.int .i64 mm))
                  (exact hkeep _ (by first | exact .inl rfl | exact .inr rfl))
                  (fail)
                clear hkeep c0 c1 c2 cf
                go_wp2_with fail
                go_roundg (n - (i + 1))
                case measure => omega
                case rel => exact ⟨i + 1, by go_num, HF.out, by omega, Nat.le_refl _, HX⟩
              · have hr0b : decide (rn = 0) = false := by simp [hr0]
                rw [hr0b]
                by_cases hcmp : mm < rv
                · obtain ⟨c0', c1', c2', -⟩ := bx
                  have bx : Box3 wB B5 (.int .u64 (IntKind.u64.wrap (rn + (nn : Int)))) (.int .i64 rv) (.slice ra rl rc) := HB7.out.1
                  have HCM : Hid (mm < rv) := hcmp
                  clear hr0b hr0
                  go_wp2_with fail
                  go_quiet (fail)
                  go_wp2_with fail
                  obtain ⟨wD, hwD⟩ : ∃ wD, wD = wB.drewN nq := ⟨_, rfl⟩
                  have HWD : Hid (Below wB.heap.size wB wD) := by rw [hwD]; exact below_dN (Below.refl _ _) _
                  rw [← hwD]
                  replace t2 := cell_up HWD.out t2
                  replace q1 := cell_up HWD.out q1
                  replace tm := cell_up HWD.out tm
                  replace bx := bx.up HWD.out
                  clear hwD
                  have hkeep : ∀ X : World, X = wD.drew ∨ X = (wD.setCell ⟨B5, 1, none⟩ (.int .i64 mm)).drew → (fun X : World => X.cell? ⟨b, off + i * 4 + 2, none⟩ = some (.slice (some ⟨bm, om, none⟩) 2 cm) ∧ X.cell? ⟨w.heap.size, 1, none⟩ = some (.int .i64 (cc : Int)) ∧ X.cell? ⟨bm, om + cc, none⟩ = some (.int .i64 mm)) X := by
                    obtain ⟨l1, -, l3, l4⟩ := HLT.out
                    have l5 := HB5.out
                    rintro X (rfl | rfl)
                    · exact ⟨t2, q1, tm⟩
                    · refine ⟨?_, ?_, ?_⟩
                      · show World.cell? (World.setCell _ _ _) _ = _
                        rw [World.cell?_setCell_far _ _ _ _ (by show B5 ≠ b; omega)]; exact t2
                      · show World.cell? (World.setCell _ _ _) _ = _
                        rw [World.cell?_setCell_far _ _ _ _ (by show B5 ≠ w.heap.size; omega)]; exact q1
                      · show World.cell? (World.setCell _ _ _) _ = _
                        rw [World.cell?_setCell_far _ _ _ _ (by show B5 ≠ bm; omega)]; exact tm
                  have HX : Hid _ := up_drew (stV.out mm wD _ HWD.out rfl (by rw [HJ.out, HK3.out]; simp only [show ¬ ((3 : Int) = 2) by decide, show ¬ ((3 : Int) = 5) by decide, if_false, if_true]; rw [if_pos (.inr HCM.out)]))
                  obtain ⟨c0, c1, c2, cf⟩ := bx
                  go_region_held (fun X : World => X.cell? ⟨b, off + i * 4 + 2, none⟩ = some (.slice (some ⟨bm, om, none⟩) 2 cm) ∧ X.cell? ⟨w.heap.size, 1, none⟩ = some (.int .i64 (cc : Int)) ∧ X.cell? ⟨bm, om + cc, none⟩ = some (.int .i64 mm))
                    (exact hkeep _ (by first | exact .inl rfl | exact .inr rfl))
                    (fail)
                  clear hkeep c0 c1 c2 cf
                  go_wp2_with fail
                  go_roundg (n - (i + 1))
                  case measure => omega
                  case rel => exact ⟨i + 1, by go_num, HF.out, by omega, Nat.le_refl _, HX⟩
                · obtain ⟨c0', c1', c2', -⟩ := bx
                  have HCM : Hid (¬ (mm < rv) ∧ ¬ rn = 0) := ⟨hcmp, hr0⟩
                  have HXf : Hid (∀ X, Below wB.heap.size wB X → _) := fun X bX => stN.out X bX (by rw [HJ.out, HK3.out]; simp only [show ¬ ((3 : Int) = 2) by decide, show ¬ ((3 : Int) = 5) by decide, if_false, if_true]; rw [if_neg (fun h => h.elim HCM.out.2 HCM.out.1)])
                  clear hr0b hr0
                  go_wp2_with fail
                  go_quiet (fail)
                  have HX : Hid _ := HXf.out (wB.drewN nq) (below_dN (Below.refl _ _) _)
                  go_wp2_with fail
                  go_roundg (n - (i + 1))
                  case measure => omega
                  case rel => exact ⟨i + 1, by go_num, HF.out, by omega, Nat.le_refl _, HX⟩
            · have hk3b : (k == 3) = false := by simp [hk3]
              by_cases hk4 : k = 4
              · have hk4b : (k == 4) = true := by simp [hk4]
                have HK3 : Hid (k = 4) := hk4
                clear hk2 hk3 hk4 kPut _hk15
                by_cases hr0 : rn = 0
                · have hr0b : decide (rn = 0) = true := by simp [hr0]
                  have HR0 : Hid (rn = 0) := hr0
                  rw [hr0b]
                  obtain ⟨c0', c1', c2', -⟩ := bx
                  have bx : Box3 wB B5 (.int .u64 (IntKind.u64.wrap (rn + (nn : Int)))) (.int .i64 rv) (.slice ra rl rc) := HB7.out.1
                  clear hr0 hr0b
                  go_wp2_with fail
                  go_quiet (fail)
                  go_wp2_with fail
                  obtain ⟨wD, hwD⟩ : ∃ wD, wD = wB.drewN nq := ⟨_, rfl⟩
                  have HWD : Hid (Below wB.heap.size wB wD) := by rw [hwD]; exact below_dN (Below.refl _ _) _
                  rw [← hwD]
                  replace t2 := cell_up HWD.out t2
                  replace q1 := cell_up HWD.out q1
                  replace tm := cell_up HWD.out tm
                  replace bx := bx.up HWD.out
                  clear hwD
                  have hkeep : ∀ X : World, X = wD.drew ∨ X = (wD.setCell ⟨B5, 1, none⟩ (.int .i64 mm)).drew → (fun X : World => X.cell? ⟨b, off + i * 4 + 2, none⟩ = some (.slice (some ⟨bm, om, none⟩) 2 cm) ∧ X.cell? ⟨w.heap.size, 1, none⟩ = some (.int .i64 (cc : Int)) ∧ X.cell? ⟨bm, om + cc, none⟩ = some (.int .i64 mm)) X := by
                    obtain ⟨l1, -, l3, l4⟩ := HLT.out
                    have l5 := HB5.out
                    rintro X (rfl | rfl)
                    · exact ⟨t2, q1, tm⟩
                    · refine ⟨?_, ?_, ?_⟩
                      · show World.cell? (World.setCell _ _ _) _ = _
                        rw [World.cell?_setCell_far _ _ _ _ (by show B5 ≠ b; omega)]; exact t2
                      · show World.cell? (World.setCell _ _ _) _ = _
                        rw [World.cell?_setCell_far _ _ _ _ (by show B5 ≠ w.heap.size; omega)]; exact q1
                      · show World.cell? (World.setCell _ _ _) _ = _
                        rw [World.cell?_setCell_far _ _ _ _ (by show B5 ≠ bm; omega)]; exact tm
                  have HX : Hid _ := up_drew (stV.out mm wD _ HWD.out rfl (by rw [HJ.out, HK3.out]; simp only [show ¬ ((4 : Int) = 2) by decide, show ¬ ((4 : Int) = 5) by decide, if_false, show ¬ ((4 : Int) = 3) by decide, if_true]; rw [if_pos (.inl HR0.out)]))
                  obtain ⟨c0, c1, c2, cf⟩ := bx
                  go_region_held (fun X : World => X.cell? ⟨b, off + i * 4 + 2, none⟩ = some (.slice (some ⟨bm, om, none⟩) 2 cm) ∧ X.cell? ⟨w.heap.size, 1, none⟩ = some (.int .i64 (cc : Int)) ∧ X.cell? ⟨bm, om + cc, none⟩ = some (.int .i64 mm))
                    (exact hkeep _ (by first | exact .inl rfl | exact .inr rfl))
                    (fail)
                  clear hkeep c0 c1 c2 cf
                  go_wp2_with fail
                  go_roundg (n - (i + 1))
                  case measure => omega
                  case rel => exact ⟨i + 1, by go_num, HF.out, by omega, Nat.le_refl _, HX⟩
                · have hr0b : decide (rn = 0) = false := by simp [hr0]
                  rw [hr0b]
                  by_cases hcmp : rv < mm
                  · obtain ⟨c0', c1', c2', -⟩ := bx
                    have bx : Box3 wB B5 (.int .u64 (IntKind.u64.wrap (rn + (nn : Int)))) (.int .i64 rv) (.slice ra rl rc) := HB7.out.1
                    have HCM : Hid (rv < mm) := hcmp
                    clear hr0b hr0
                    go_wp2_with fail
                    go_quiet (fail)
                    go_wp2_with fail
                    obtain ⟨wD, hwD⟩ : ∃ wD, wD = wB.drewN nq := ⟨_, rfl⟩
                    have HWD : Hid (Below wB.heap.size wB wD) := by rw [hwD]; exact below_dN (Below.refl _ _) _
                    rw [← hwD]
                    replace t2 := cell_up HWD.out t2
                    replace q1 := cell_up HWD.out q1
                    replace tm := cell_up HWD.out tm
                    replace bx := bx.up HWD.out
                    clear hwD
                    have hkeep : ∀ X : World, X = wD.drew ∨ X = (wD.setCell ⟨B5, 1, none⟩ (.int .i64 mm)).drew → (fun X : World => X.cell? ⟨b, off + i * 4 + 2, none⟩ = some (.slice (some ⟨bm, om, none⟩) 2 cm) ∧ X.cell? ⟨w.heap.size, 1, none⟩ = some (.int .i64 (cc : Int)) ∧ X.cell? ⟨bm, om + cc, none⟩ = some (.int .i64 mm)) X := by
                      obtain ⟨l1, -, l3, l4⟩ := HLT.out
                      have l5 := HB5.out
                      rintro X (rfl | rfl)
                      · exact ⟨t2, q1, tm⟩
                      · refine ⟨?_, ?_, ?_⟩
                        · show World.cell? (World.setCell _ _ _) _ = _
                          rw [World.cell?_setCell_far _ _ _ _ (by show B5 ≠ b; omega)]; exact t2
                        · show World.cell? (World.setCell _ _ _) _ = _
                          rw [World.cell?_setCell_far _ _ _ _ (by show B5 ≠ w.heap.size; omega)]; exact q1
                        · show World.cell? (World.setCell _ _ _) _ = _
                          rw [World.cell?_setCell_far _ _ _ _ (by show B5 ≠ bm; omega)]; exact tm
                    have HX : Hid _ := up_drew (stV.out mm wD _ HWD.out rfl (by rw [HJ.out, HK3.out]; simp only [show ¬ ((4 : Int) = 2) by decide, show ¬ ((4 : Int) = 5) by decide, if_false, show ¬ ((4 : Int) = 3) by decide, if_true]; rw [if_pos (.inr HCM.out)]))
                    obtain ⟨c0, c1, c2, cf⟩ := bx
                    go_region_held (fun X : World => X.cell? ⟨b, off + i * 4 + 2, none⟩ = some (.slice (some ⟨bm, om, none⟩) 2 cm) ∧ X.cell? ⟨w.heap.size, 1, none⟩ = some (.int .i64 (cc : Int)) ∧ X.cell? ⟨bm, om + cc, none⟩ = some (.int .i64 mm))
                      (exact hkeep _ (by first | exact .inl rfl | exact .inr rfl))
                      (fail)
                    clear hkeep c0 c1 c2 cf
                    go_wp2_with fail
                    go_roundg (n - (i + 1))
                    case measure => omega
                    case rel => exact ⟨i + 1, by go_num, HF.out, by omega, Nat.le_refl _, HX⟩
                  · obtain ⟨c0', c1', c2', -⟩ := bx
                    have HCM : Hid (¬ (rv < mm) ∧ ¬ rn = 0) := ⟨hcmp, hr0⟩
                    have HXf : Hid (∀ X, Below wB.heap.size wB X → _) := fun X bX => stN.out X bX (by rw [HJ.out, HK3.out]; simp only [show ¬ ((4 : Int) = 2) by decide, show ¬ ((4 : Int) = 5) by decide, if_false, show ¬ ((4 : Int) = 3) by decide, if_true]; rw [if_neg (fun h => h.elim HCM.out.2 HCM.out.1)])
                    clear hr0b hr0
                    go_wp2_with fail
                    go_quiet (fail)
                    have HX : Hid _ := HXf.out (wB.drewN nq) (below_dN (Below.refl _ _) _)
                    go_wp2_with fail
                    go_roundg (n - (i + 1))
                    case measure => omega
                    case rel => exact ⟨i + 1, by go_num, HF.out, by omega, Nat.le_refl _, HX⟩
              · have hk4b : (k == 4) = false := by simp [hk4]
                by_cases hk5 : k = 5
                · have hk5b : (k == 5) = true := by simp [hk5]
                  have HK5 : Hid (k = 5) := hk5
                  clear hk2 hk3 hk4 hk5 stN stV _hk15
                  go_wp2_with fail
                  refine wp_region_invF (β := Value × Value × Value × Value × Value × Value × Value × Value × Value × Value × Value × Value × Value × Value) (fun a0 xq => ((((((((((((((a0.put (some 114) (xq.1)).put (some 115) (xq.2.1)).put (some 116) (xq.2.2.1)).put (some 117) (xq.2.2.2.1)).put (some 118) (xq.2.2.2.2.1)).put (some 119) (xq.2.2.2.2.2.1)).put (some 120) (xq.2.2.2.2.2.2.1)).put (some 121) (xq.2.2.2.2.2.2.2.1)).put (some 122) (xq.2.2.2.2.2.2.2.2.1)).put (some 123) (xq.2.2.2.2.2.2.2.2.2.1)).put (some 124) (xq.2.2.2.2.2.2.2.2.2.2.1)).put (some 125) (xq.2.2.2.2.2.2.2.2.2.2.2.1)).put (some 126) (xq.2.2.2.2.2.2.2.2.2.2.2.2.1)).put (some 127) (xq.2.2.2.2.2.2.2.2.2.2.2.2.2))) ?fr114 (fun xq d w' => ((d 14 = false ∧ Below wB.heap.size wB w' ∧ (d 0 = true → Evr w' (fun _ => (xq.1) = .pointer (some ⟨B5, 2, none⟩))) ∧ (d 1 = true → Evr w' (fun _ => (xq.2.1) = .slice ra rl rc)) ∧ (d 2 = true → Evr w' (fun _ => (xq.2.2.1) = .slice (some ⟨b, off, none⟩) n cap)) ∧ (d 3 = true → Evr w' (fun _ => (xq.2.2.2.1) = .int .i64 (i : Int))) ∧ (d 4 = true → Evr w' (fun _ => (xq.2.2.2.2.1) = .pointer (some ⟨b, off + i * 4, none⟩))) ∧ (d 5 = true → Evr w' (fun _ => (xq.2.2.2.2.2.1) = .pointer (some ⟨b, off + i * 4, none⟩))) ∧ (d 6 = true → Evr w' (fun _ => (xq.2.2.2.2.2.2.1) = .pointer (some ⟨b, off + i * 4 + 1, none⟩))) ∧ (d 7 = true → Evr w' (fun _ => (xq.2.2.2.2.2.2.2.1) = .slice (some ⟨bd, od, none⟩) 2 cd)) ∧ (d 8 = true → Evr w' (fun _ => (xq.2.2.2.2.2.2.2.2.1) = .pointer (some ⟨w.heap.size, 1, none⟩))) ∧ (d 9 = true → Evr w' (fun _ => (xq.2.2.2.2.2.2.2.2.2.1) = .int .i64 (cc : Int))) ∧ (d 10 = true → Evr w' (fun _ => (xq.2.2.2.2.2.2.2.2.2.2.1) = .pointer (some ⟨bd, od + cc, none⟩))) ∧ (d 11 = true → Evr w' (fun _ => (xq.2.2.2.2.2.2.2.2.2.2.2.1) = .string ⟨tx.toArray⟩)) ∧ (d 12 = true → Evr w' (fun X => ∃ (aa : Option Addr) (na ca : Nat), (xq.2.2.2.2.2.2.2.2.2.2.2.2.1) = .slice aa na ca ∧ New (B5 + 1) (.slice aa na ca) ∧ ∀ u, Rds (X.setCell ⟨B5, 2, none⟩ u) (.slice aa na ca) (sv (putT rts tx)))) ∧ (d 13 = true → Evr w' (fun _ => (xq.2.2.2.2.2.2.2.2.2.2.2.2.2) = .pointer (some ⟨B5, 2, none⟩)))) ∨ ((∀ j, j < 15 → d j = true) ∧ ∃ (X : World) (aa : Option Addr) (na ca : Nat), Below wB.heap.size wB X ∧ New (B5 + 1) (.slice aa na ca) ∧ Rds w' (.slice aa na ca) (sv (putT rts tx)) ∧ w' = X.setCell ⟨B5, 2, none⟩ (.slice aa na ca)))) ?lay114 mixed (by kernel_rfl) ?h0114 ?hs114 ?he114
                  case lay114 =>
                    intro xq
                    simp only [Act.put, List.setIfInBounds_toArray, List.set_cons_zero, List.set_cons_succ]
                    rfl
                  case h0114 => exact ⟨(u114, u115, u116, u117, u118, u119, u120, u121, u122, u123, u124, u125, u126, u127), rfl, .inl ⟨rfl, below_dN (Below.refl _ _) 1, (fun h => by cases h), (fun h => by cases h), (fun h => by cases h), (fun h => by cases h), (fun h => by cases h), (fun h => by cases h), (fun h => by cases h), (fun h => by cases h), (fun h => by cases h), (fun h => by cases h), (fun h => by cases h), (fun h => by cases h), (fun h => by cases h), (fun h => by cases h)⟩⟩
                  case hs114 =>
                    refine ⟨?_, ?_, ?_, ?_, ?_, ?_, ?_, ?_, ?_, ?_, ?_, ?_, ?_, ?_, ?_, trivial⟩
                    · rintro d ⟨x114, x115, x116, x117, x118, x119, x120, x121, x122, x123, x124, x125, x126, x127⟩ w' hI hd hdp K hK
                      dsimp only at hI
                      rcases hI with ⟨hl, hB, f0, f1, f2, f3, f4, f5, f6, f7, f8, f9, f10, f11, f12, f13⟩ | ⟨hall, -⟩
                      case inr => exact absurd (hall 0 (by decide)) (by rw [hd]; decide)
                      skip
                      have HF : Hid _ := (And.intro hl (And.intro hB (And.intro f0 (And.intro f1 (And.intro f2 (And.intro f3 (And.intro f4 (And.intro f5 (And.intro f6 (And.intro f7 (And.intro f8 (And.intro f9 (And.intro f10 (And.intro f11 (And.intro f12 f13)))))))))))))))
                      clear f0 f1 f2 f3 f4 f5 f6 f7 f8 f9 f10 f11 f12 f13 hB hdp hl hd
                      refine Opn.mk ?_
                      dsimp only
                      go_simp
                      obtain ⟨hl, hB, f0, f1, f2, f3, f4, f5, f6, f7, f8, f9, f10, f11, f12, f13⟩ := HF.out
                      exact hK.out (.pointer (some ⟨B5, 2, none⟩), x115, x116, x117, x118, x119, x120, x121, x122, x123, x124, x125, x126, x127) _ (.inl ⟨by rw [upd_no (by decide)]; exact hl, hB.trans (Below.mono (Below.refl w'.heap.size w') hB.size), (fun _ => fun _ _ => rfl), (fun h1 => by first | exact (f1 (upd_ne h1 (by decide))).up (Below.refl w'.heap.size w') | exact fun _ _ => rfl), (fun h2 => by first | exact (f2 (upd_ne h2 (by decide))).up (Below.refl w'.heap.size w') | exact fun _ _ => rfl), (fun h3 => by first | exact (f3 (upd_ne h3 (by decide))).up (Below.refl w'.heap.size w') | exact fun _ _ => rfl), (fun h4 => by first | exact (f4 (upd_ne h4 (by decide))).up (Below.refl w'.heap.size w') | exact fun _ _ => rfl), (fun h5 => by first | exact (f5 (upd_ne h5 (by decide))).up (Below.refl w'.heap.size w') | exact fun _ _ => rfl), (fun h6 => by first | exact (f6 (upd_ne h6 (by decide))).up (Below.refl w'.heap.size w') | exact fun _ _ => rfl), (fun h7 => by first | exact (f7 (upd_ne h7 (by decide))).up (Below.refl w'.heap.size w') | exact fun _ _ => rfl), (fun h8 => by first | exact (f8 (upd_ne h8 (by decide))).up (Below.refl w'.heap.size w') | exact fun _ _ => rfl), (fun h9 => by first | exact (f9 (upd_ne h9 (by decide))).up (Below.refl w'.heap.size w') | exact fun _ _ => rfl), (fun h10 => by first | exact (f10 (upd_ne h10 (by decide))).up (Below.refl w'.heap.size w') | exact fun _ _ => rfl), (fun h11 => by first | exact (f11 (upd_ne h11 (by decide))).up (Below.refl w'.heap.size w') | exact fun _ _ => rfl), (fun h12 => by first | exact (f12 (upd_ne h12 (by decide))).up (Below.refl w'.heap.size w') | exact fun _ _ => rfl), (fun h13 => by first | exact (f13 (upd_ne h13 (by decide))).up (Below.refl w'.heap.size w') | exact fun _ _ => rfl)⟩)
                    · rintro d ⟨x114, x115, x116, x117, x118, x119, x120, x121, x122, x123, x124, x125, x126, x127⟩ w' hI hd hdp K hK
                      dsimp only at hI
                      rcases hI with ⟨hl, hB, f0, f1, f2, f3, f4, f5, f6, f7, f8, f9, f10, f11, f12, f13⟩ | ⟨hall, -⟩
                      case inr => exact absurd (hall 1 (by decide)) (by rw [hd]; decide)
                      obtain rfl := (f0 (hdp 0 (by decide +kernel))).now
                      obtain ⟨c0, c1, c2, cf⟩ := bx.up hB
                      have HF : Hid _ := (And.intro hl (And.intro hB (And.intro f0 (And.intro f1 (And.intro f2 (And.intro f3 (And.intro f4 (And.intro f5 (And.intro f6 (And.intro f7 (And.intro f8 (And.intro f9 (And.intro f10 (And.intro f11 (And.intro f12 f13)))))))))))))))
                      clear f0 f1 f2 f3 f4 f5 f6 f7 f8 f9 f10 f11 f12 f13 hB hdp hl hd
                      refine Opn.mk ?_
                      dsimp only
                      go_simp
                      obtain ⟨hl, hB, f0, f1, f2, f3, f4, f5, f6, f7, f8, f9, f10, f11, f12, f13⟩ := HF.out
                      exact hK.out (.pointer (some ⟨B5, 2, none⟩), .slice ra rl rc, x116, x117, x118, x119, x120, x121, x122, x123, x124, x125, x126, x127) _ (.inl ⟨by rw [upd_no (by decide)]; exact hl, hB.trans (Below.mono (Below.refl w'.heap.size w') hB.size), (fun h0 => by first | exact (f0 (upd_ne h0 (by decide))).up (Below.refl w'.heap.size w') | exact fun _ _ => rfl), (fun _ => fun _ _ => rfl), (fun h2 => by first | exact (f2 (upd_ne h2 (by decide))).up (Below.refl w'.heap.size w') | exact fun _ _ => rfl), (fun h3 => by first | exact (f3 (upd_ne h3 (by decide))).up (Below.refl w'.heap.size w') | exact fun _ _ => rfl), (fun h4 => by first | exact (f4 (upd_ne h4 (by decide))).up (Below.refl w'.heap.size w') | exact fun _ _ => rfl), (fun h5 => by first | exact (f5 (upd_ne h5 (by decide))).up (Below.refl w'.heap.size w') | exact fun _ _ => rfl), (fun h6 => by first | exact (f6 (upd_ne h6 (by decide))).up (Below.refl w'.heap.size w') | exact fun _ _ => rfl), (fun h7 => by first | exact (f7 (upd_ne h7 (by decide))).up (Below.refl w'.heap.size w') | exact fun _ _ => rfl), (fun h8 => by first | exact (f8 (upd_ne h8 (by decide))).up (Below.refl w'.heap.size w') | exact fun _ _ => rfl), (fun h9 => by first | exact (f9 (upd_ne h9 (by decide))).up (Below.refl w'.heap.size w') | exact fun _ _ => rfl), (fun h10 => by first | exact (f10 (upd_ne h10 (by decide))).up (Below.refl w'.heap.size w') | exact fun _ _ => rfl), (fun h11 => by first | exact (f11 (upd_ne h11 (by decide))).up (Below.refl w'.heap.size w') | exact fun _ _ => rfl), (fun h12 => by first | exact (f12 (upd_ne h12 (by decide))).up (Below.refl w'.heap.size w') | exact fun _ _ => rfl), (fun h13 => by first | exact (f13 (upd_ne h13 (by decide))).up (Below.refl w'.heap.size w') | exact fun _ _ => rfl)⟩)
                    · rintro d ⟨x114, x115, x116, x117, x118, x119, x120, x121, x122, x123, x124, x125, x126, x127⟩ w' hI hd hdp K hK
                      dsimp only at hI
                      rcases hI with ⟨hl, hB, f0, f1, f2, f3, f4, f5, f6, f7, f8, f9, f10, f11, f12, f13⟩ | ⟨hall, -⟩
                      case inr => exact absurd (hall 2 (by decide)) (by rw [hd]; decide)
                      skip
                      have HF : Hid _ := (And.intro hl (And.intro hB (And.intro f0 (And.intro f1 (And.intro f2 (And.intro f3 (And.intro f4 (And.intro f5 (And.intro f6 (And.intro f7 (And.intro f8 (And.intro f9 (And.intro f10 (And.intro f11 (And.intro f12 f13)))))))))))))))
                      clear f0 f1 f2 f3 f4 f5 f6 f7 f8 f9 f10 f11 f12 f13 hB hdp hl hd
                      refine Opn.mk ?_
                      dsimp only
                      go_simp
                      obtain ⟨hl, hB, f0, f1, f2, f3, f4, f5, f6, f7, f8, f9, f10, f11, f12, f13⟩ := HF.out
                      exact hK.out (x114, x115, .slice (some ⟨b, off, none⟩) n cap, x117, x118, x119, x120, x121, x122, x123, x124, x125, x126, x127) _ (.inl ⟨by rw [upd_no (by decide)]; exact hl, hB.trans (Below.mono (Below.refl w'.heap.size w') hB.size), (fun h0 => by first | exact (f0 (upd_ne h0 (by decide))).up (Below.refl w'.heap.size w') | exact fun _ _ => rfl), (fun h1 => by first | exact (f1 (upd_ne h1 (by decide))).up (Below.refl w'.heap.size w') | exact fun _ _ => rfl), (fun _ => fun _ _ => rfl), (fun h3 => by first | exact (f3 (upd_ne h3 (by decide))).up (Below.refl w'.heap.size w') | exact fun _ _ => rfl), (fun h4 => by first | exact (f4 (upd_ne h4 (by decide))).up (Below.refl w'.heap.size w') | exact fun _ _ => rfl), (fun h5 => by first | exact (f5 (upd_ne h5 (by decide))).up (Below.refl w'.heap.size w') | exact fun _ _ => rfl), (fun h6 => by first | exact (f6 (upd_ne h6 (by decide))).up (Below.refl w'.heap.size w') | exact fun _ _ => rfl), (fun h7 => by first | exact (f7 (upd_ne h7 (by decide))).up (Below.refl w'.heap.size w') | exact fun _ _ => rfl), (fun h8 => by first | exact (f8 (upd_ne h8 (by decide))).up (Below.refl w'.heap.size w') | exact fun _ _ => rfl), (fun h9 => by first | exact (f9 (upd_ne h9 (by decide))).up (Below.refl w'.heap.size w') | exact fun _ _ => rfl), (fun h10 => by first | exact (f10 (upd_ne h10 (by decide))).up (Below.refl w'.heap.size w') | exact fun _ _ => rfl), (fun h11 => by first | exact (f11 (upd_ne h11 (by decide))).up (Below.refl w'.heap.size w') | exact fun _ _ => rfl), (fun h12 => by first | exact (f12 (upd_ne h12 (by decide))).up (Below.refl w'.heap.size w') | exact fun _ _ => rfl), (fun h13 => by first | exact (f13 (upd_ne h13 (by decide))).up (Below.refl w'.heap.size w') | exact fun _ _ => rfl)⟩)
                    · rintro d ⟨x114, x115, x116, x117, x118, x119, x120, x121, x122, x123, x124, x125, x126, x127⟩ w' hI hd hdp K hK
                      dsimp only at hI
                      rcases hI with ⟨hl, hB, f0, f1, f2, f3, f4, f5, f6, f7, f8, f9, f10, f11, f12, f13⟩ | ⟨hall, -⟩
                      case inr => exact absurd (hall 3 (by decide)) (by rw [hd]; decide)
                      skip
                      have HF : Hid _ := (And.intro hl (And.intro hB (And.intro f0 (And.intro f1 (And.intro f2 (And.intro f3 (And.intro f4 (And.intro f5 (And.intro f6 (And.intro f7 (And.intro f8 (And.intro f9 (And.intro f10 (And.intro f11 (And.intro f12 f13)))))))))))))))
                      clear f0 f1 f2 f3 f4 f5 f6 f7 f8 f9 f10 f11 f12 f13 hB hdp hl hd
                      refine Opn.mk ?_
                      dsimp only
                      go_simp
                      obtain ⟨hl, hB, f0, f1, f2, f3, f4, f5, f6, f7, f8, f9, f10, f11, f12, f13⟩ := HF.out
                      exact hK.out (x114, x115, x116, .int .i64 (i : Int), x118, x119, x120, x121, x122, x123, x124, x125, x126, x127) _ (.inl ⟨by rw [upd_no (by decide)]; exact hl, hB.trans (Below.mono (Below.refl w'.heap.size w') hB.size), (fun h0 => by first | exact (f0 (upd_ne h0 (by decide))).up (Below.refl w'.heap.size w') | exact fun _ _ => rfl), (fun h1 => by first | exact (f1 (upd_ne h1 (by decide))).up (Below.refl w'.heap.size w') | exact fun _ _ => rfl), (fun h2 => by first | exact (f2 (upd_ne h2 (by decide))).up (Below.refl w'.heap.size w') | exact fun _ _ => rfl), (fun _ => fun _ _ => rfl), (fun h4 => by first | exact (f4 (upd_ne h4 (by decide))).up (Below.refl w'.heap.size w') | exact fun _ _ => rfl), (fun h5 => by first | exact (f5 (upd_ne h5 (by decide))).up (Below.refl w'.heap.size w') | exact fun _ _ => rfl), (fun h6 => by first | exact (f6 (upd_ne h6 (by decide))).up (Below.refl w'.heap.size w') | exact fun _ _ => rfl), (fun h7 => by first | exact (f7 (upd_ne h7 (by decide))).up (Below.refl w'.heap.size w') | exact fun _ _ => rfl), (fun h8 => by first | exact (f8 (upd_ne h8 (by decide))).up (Below.refl w'.heap.size w') | exact fun _ _ => rfl), (fun h9 => by first | exact (f9 (upd_ne h9 (by decide))).up (Below.refl w'.heap.size w') | exact fun _ _ => rfl), (fun h10 => by first | exact (f10 (upd_ne h10 (by decide))).up (Below.refl w'.heap.size w') | exact fun _ _ => rfl), (fun h11 => by first | exact (f11 (upd_ne h11 (by decide))).up (Below.refl w'.heap.size w') | exact fun _ _ => rfl), (fun h12 => by first | exact (f12 (upd_ne h12 (by decide))).up (Below.refl w'.heap.size w') | exact fun _ _ => rfl), (fun h13 => by first | exact (f13 (upd_ne h13 (by decide))).up (Below.refl w'.heap.size w') | exact fun _ _ => rfl)⟩)
                    · rintro d ⟨x114, x115, x116, x117, x118, x119, x120, x121, x122, x123, x124, x125, x126, x127⟩ w' hI hd hdp K hK
                      dsimp only at hI
                      rcases hI with ⟨hl, hB, f0, f1, f2, f3, f4, f5, f6, f7, f8, f9, f10, f11, f12, f13⟩ | ⟨hall, -⟩
                      case inr => exact absurd (hall 4 (by decide)) (by rw [hd]; decide)
                      obtain rfl := (f2 (hdp 2 (by decide +kernel))).now
                      obtain rfl := (f3 (hdp 3 (by decide +kernel))).now
                      have HF : Hid _ := (And.intro hl (And.intro hB (And.intro f0 (And.intro f1 (And.intro f2 (And.intro f3 (And.intro f4 (And.intro f5 (And.intro f6 (And.intro f7 (And.intro f8 (And.intro f9 (And.intro f10 (And.intro f11 (And.intro f12 f13)))))))))))))))
                      clear f0 f1 f2 f3 f4 f5 f6 f7 f8 f9 f10 f11 f12 f13 hB hdp hl hd
                      refine Opn.mk ?_
                      dsimp only
                      go_simp
                      obtain ⟨hl, hB, f0, f1, f2, f3, f4, f5, f6, f7, f8, f9, f10, f11, f12, f13⟩ := HF.out
                      exact hK.out (x114, x115, .slice (some ⟨b, off, none⟩) n cap, .int .i64 (i : Int), .pointer (some ⟨b, off + i * 4, none⟩), x119, x120, x121, x122, x123, x124, x125, x126, x127) _ (.inl ⟨by rw [upd_no (by decide)]; exact hl, hB.trans (Below.mono (Below.refl w'.heap.size w') hB.size), (fun h0 => by first | exact (f0 (upd_ne h0 (by decide))).up (Below.refl w'.heap.size w') | exact fun _ _ => rfl), (fun h1 => by first | exact (f1 (upd_ne h1 (by decide))).up (Below.refl w'.heap.size w') | exact fun _ _ => rfl), (fun h2 => by first | exact (f2 (upd_ne h2 (by decide))).up (Below.refl w'.heap.size w') | exact fun _ _ => rfl), (fun h3 => by first | exact (f3 (upd_ne h3 (by decide))).up (Below.refl w'.heap.size w') | exact fun _ _ => rfl), (fun _ => fun _ _ => rfl), (fun h5 => by first | exact (f5 (upd_ne h5 (by decide))).up (Below.refl w'.heap.size w') | exact fun _ _ => rfl), (fun h6 => by first | exact (f6 (upd_ne h6 (by decide))).up (Below.refl w'.heap.size w') | exact fun _ _ => rfl), (fun h7 => by first | exact (f7 (upd_ne h7 (by decide))).up (Below.refl w'.heap.size w') | exact fun _ _ => rfl), (fun h8 => by first | exact (f8 (upd_ne h8 (by decide))).up (Below.refl w'.heap.size w') | exact fun _ _ => rfl), (fun h9 => by first | exact (f9 (upd_ne h9 (by decide))).up (Below.refl w'.heap.size w') | exact fun _ _ => rfl), (fun h10 => by first | exact (f10 (upd_ne h10 (by decide))).up (Below.refl w'.heap.size w') | exact fun _ _ => rfl), (fun h11 => by first | exact (f11 (upd_ne h11 (by decide))).up (Below.refl w'.heap.size w') | exact fun _ _ => rfl), (fun h12 => by first | exact (f12 (upd_ne h12 (by decide))).up (Below.refl w'.heap.size w') | exact fun _ _ => rfl), (fun h13 => by first | exact (f13 (upd_ne h13 (by decide))).up (Below.refl w'.heap.size w') | exact fun _ _ => rfl)⟩)
                    · rintro d ⟨x114, x115, x116, x117, x118, x119, x120, x121, x122, x123, x124, x125, x126, x127⟩ w' hI hd hdp K hK
                      dsimp only at hI
                      rcases hI with ⟨hl, hB, f0, f1, f2, f3, f4, f5, f6, f7, f8, f9, f10, f11, f12, f13⟩ | ⟨hall, -⟩
                      case inr => exact absurd (hall 5 (by decide)) (by rw [hd]; decide)
                      obtain rfl := (f4 (hdp 4 (by decide +kernel))).now
                      have HF : Hid _ := (And.intro hl (And.intro hB (And.intro f0 (And.intro f1 (And.intro f2 (And.intro f3 (And.intro f4 (And.intro f5 (And.intro f6 (And.intro f7 (And.intro f8 (And.intro f9 (And.intro f10 (And.intro f11 (And.intro f12 f13)))))))))))))))
                      clear f0 f1 f2 f3 f4 f5 f6 f7 f8 f9 f10 f11 f12 f13 hB hdp hl hd
                      refine Opn.mk ?_
                      dsimp only
                      go_simp
                      obtain ⟨hl, hB, f0, f1, f2, f3, f4, f5, f6, f7, f8, f9, f10, f11, f12, f13⟩ := HF.out
                      exact hK.out (x114, x115, x116, x117, .pointer (some ⟨b, off + i * 4, none⟩), .pointer (some ⟨b, off + i * 4, none⟩), x120, x121, x122, x123, x124, x125, x126, x127) _ (.inl ⟨by rw [upd_no (by decide)]; exact hl, hB.trans (Below.mono (Below.refl w'.heap.size w') hB.size), (fun h0 => by first | exact (f0 (upd_ne h0 (by decide))).up (Below.refl w'.heap.size w') | exact fun _ _ => rfl), (fun h1 => by first | exact (f1 (upd_ne h1 (by decide))).up (Below.refl w'.heap.size w') | exact fun _ _ => rfl), (fun h2 => by first | exact (f2 (upd_ne h2 (by decide))).up (Below.refl w'.heap.size w') | exact fun _ _ => rfl), (fun h3 => by first | exact (f3 (upd_ne h3 (by decide))).up (Below.refl w'.heap.size w') | exact fun _ _ => rfl), (fun h4 => by first | exact (f4 (upd_ne h4 (by decide))).up (Below.refl w'.heap.size w') | exact fun _ _ => rfl), (fun _ => fun _ _ => rfl), (fun h6 => by first | exact (f6 (upd_ne h6 (by decide))).up (Below.refl w'.heap.size w') | exact fun _ _ => rfl), (fun h7 => by first | exact (f7 (upd_ne h7 (by decide))).up (Below.refl w'.heap.size w') | exact fun _ _ => rfl), (fun h8 => by first | exact (f8 (upd_ne h8 (by decide))).up (Below.refl w'.heap.size w') | exact fun _ _ => rfl), (fun h9 => by first | exact (f9 (upd_ne h9 (by decide))).up (Below.refl w'.heap.size w') | exact fun _ _ => rfl), (fun h10 => by first | exact (f10 (upd_ne h10 (by decide))).up (Below.refl w'.heap.size w') | exact fun _ _ => rfl), (fun h11 => by first | exact (f11 (upd_ne h11 (by decide))).up (Below.refl w'.heap.size w') | exact fun _ _ => rfl), (fun h12 => by first | exact (f12 (upd_ne h12 (by decide))).up (Below.refl w'.heap.size w') | exact fun _ _ => rfl), (fun h13 => by first | exact (f13 (upd_ne h13 (by decide))).up (Below.refl w'.heap.size w') | exact fun _ _ => rfl)⟩)
                    · rintro d ⟨x114, x115, x116, x117, x118, x119, x120, x121, x122, x123, x124, x125, x126, x127⟩ w' hI hd hdp K hK
                      dsimp only at hI
                      rcases hI with ⟨hl, hB, f0, f1, f2, f3, f4, f5, f6, f7, f8, f9, f10, f11, f12, f13⟩ | ⟨hall, -⟩
                      case inr => exact absurd (hall 6 (by decide)) (by rw [hd]; decide)
                      obtain rfl := (f5 (hdp 5 (by decide +kernel))).now
                      have HF : Hid _ := (And.intro hl (And.intro hB (And.intro f0 (And.intro f1 (And.intro f2 (And.intro f3 (And.intro f4 (And.intro f5 (And.intro f6 (And.intro f7 (And.intro f8 (And.intro f9 (And.intro f10 (And.intro f11 (And.intro f12 f13)))))))))))))))
                      clear f0 f1 f2 f3 f4 f5 f6 f7 f8 f9 f10 f11 f12 f13 hB hdp hl hd
                      refine Opn.mk ?_
                      dsimp only
                      go_simp
                      obtain ⟨hl, hB, f0, f1, f2, f3, f4, f5, f6, f7, f8, f9, f10, f11, f12, f13⟩ := HF.out
                      exact hK.out (x114, x115, x116, x117, x118, .pointer (some ⟨b, off + i * 4, none⟩), .pointer (some ⟨b, off + i * 4 + 1, none⟩), x121, x122, x123, x124, x125, x126, x127) _ (.inl ⟨by rw [upd_no (by decide)]; exact hl, hB.trans (Below.mono (Below.refl w'.heap.size w') hB.size), (fun h0 => by first | exact (f0 (upd_ne h0 (by decide))).up (Below.refl w'.heap.size w') | exact fun _ _ => rfl), (fun h1 => by first | exact (f1 (upd_ne h1 (by decide))).up (Below.refl w'.heap.size w') | exact fun _ _ => rfl), (fun h2 => by first | exact (f2 (upd_ne h2 (by decide))).up (Below.refl w'.heap.size w') | exact fun _ _ => rfl), (fun h3 => by first | exact (f3 (upd_ne h3 (by decide))).up (Below.refl w'.heap.size w') | exact fun _ _ => rfl), (fun h4 => by first | exact (f4 (upd_ne h4 (by decide))).up (Below.refl w'.heap.size w') | exact fun _ _ => rfl), (fun h5 => by first | exact (f5 (upd_ne h5 (by decide))).up (Below.refl w'.heap.size w') | exact fun _ _ => rfl), (fun _ => fun _ _ => rfl), (fun h7 => by first | exact (f7 (upd_ne h7 (by decide))).up (Below.refl w'.heap.size w') | exact fun _ _ => rfl), (fun h8 => by first | exact (f8 (upd_ne h8 (by decide))).up (Below.refl w'.heap.size w') | exact fun _ _ => rfl), (fun h9 => by first | exact (f9 (upd_ne h9 (by decide))).up (Below.refl w'.heap.size w') | exact fun _ _ => rfl), (fun h10 => by first | exact (f10 (upd_ne h10 (by decide))).up (Below.refl w'.heap.size w') | exact fun _ _ => rfl), (fun h11 => by first | exact (f11 (upd_ne h11 (by decide))).up (Below.refl w'.heap.size w') | exact fun _ _ => rfl), (fun h12 => by first | exact (f12 (upd_ne h12 (by decide))).up (Below.refl w'.heap.size w') | exact fun _ _ => rfl), (fun h13 => by first | exact (f13 (upd_ne h13 (by decide))).up (Below.refl w'.heap.size w') | exact fun _ _ => rfl)⟩)
                    · rintro d ⟨x114, x115, x116, x117, x118, x119, x120, x121, x122, x123, x124, x125, x126, x127⟩ w' hI hd hdp K hK
                      dsimp only at hI
                      rcases hI with ⟨hl, hB, f0, f1, f2, f3, f4, f5, f6, f7, f8, f9, f10, f11, f12, f13⟩ | ⟨hall, -⟩
                      case inr => exact absurd (hall 7 (by decide)) (by rw [hd]; decide)
                      obtain rfl := (f6 (hdp 6 (by decide +kernel))).now
                      have c0 := cell_up hB t1
                      have HF : Hid _ := (And.intro hl (And.intro hB (And.intro f0 (And.intro f1 (And.intro f2 (And.intro f3 (And.intro f4 (And.intro f5 (And.intro f6 (And.intro f7 (And.intro f8 (And.intro f9 (And.intro f10 (And.intro f11 (And.intro f12 f13)))))))))))))))
                      clear f0 f1 f2 f3 f4 f5 f6 f7 f8 f9 f10 f11 f12 f13 hB hdp hl hd
                      refine Opn.mk ?_
                      dsimp only
                      go_simp
                      obtain ⟨hl, hB, f0, f1, f2, f3, f4, f5, f6, f7, f8, f9, f10, f11, f12, f13⟩ := HF.out
                      exact hK.out (x114, x115, x116, x117, x118, x119, .pointer (some ⟨b, off + i * 4 + 1, none⟩), .slice (some ⟨bd, od, none⟩) 2 cd, x122, x123, x124, x125, x126, x127) _ (.inl ⟨by rw [upd_no (by decide)]; exact hl, hB.trans (Below.mono (Below.refl w'.heap.size w') hB.size), (fun h0 => by first | exact (f0 (upd_ne h0 (by decide))).up (Below.refl w'.heap.size w') | exact fun _ _ => rfl), (fun h1 => by first | exact (f1 (upd_ne h1 (by decide))).up (Below.refl w'.heap.size w') | exact fun _ _ => rfl), (fun h2 => by first | exact (f2 (upd_ne h2 (by decide))).up (Below.refl w'.heap.size w') | exact fun _ _ => rfl), (fun h3 => by first | exact (f3 (upd_ne h3 (by decide))).up (Below.refl w'.heap.size w') | exact fun _ _ => rfl), (fun h4 => by first | exact (f4 (upd_ne h4 (by decide))).up (Below.refl w'.heap.size w') | exact fun _ _ => rfl), (fun h5 => by first | exact (f5 (upd_ne h5 (by decide))).up (Below.refl w'.heap.size w') | exact fun _ _ => rfl), (fun h6 => by first | exact (f6 (upd_ne h6 (by decide))).up (Below.refl w'.heap.size w') | exact fun _ _ => rfl), (fun _ => fun _ _ => rfl), (fun h8 => by first | exact (f8 (upd_ne h8 (by decide))).up (Below.refl w'.heap.size w') | exact fun _ _ => rfl), (fun h9 => by first | exact (f9 (upd_ne h9 (by decide))).up (Below.refl w'.heap.size w') | exact fun _ _ => rfl), (fun h10 => by first | exact (f10 (upd_ne h10 (by decide))).up (Below.refl w'.heap.size w') | exact fun _ _ => rfl), (fun h11 => by first | exact (f11 (upd_ne h11 (by decide))).up (Below.refl w'.heap.size w') | exact fun _ _ => rfl), (fun h12 => by first | exact (f12 (upd_ne h12 (by decide))).up (Below.refl w'.heap.size w') | exact fun _ _ => rfl), (fun h13 => by first | exact (f13 (upd_ne h13 (by decide))).up (Below.refl w'.heap.size w') | exact fun _ _ => rfl)⟩)
                    · rintro d ⟨x114, x115, x116, x117, x118, x119, x120, x121, x122, x123, x124, x125, x126, x127⟩ w' hI hd hdp K hK
                      dsimp only at hI
                      rcases hI with ⟨hl, hB, f0, f1, f2, f3, f4, f5, f6, f7, f8, f9, f10, f11, f12, f13⟩ | ⟨hall, -⟩
                      case inr => exact absurd (hall 8 (by decide)) (by rw [hd]; decide)
                      skip
                      have HF : Hid _ := (And.intro hl (And.intro hB (And.intro f0 (And.intro f1 (And.intro f2 (And.intro f3 (And.intro f4 (And.intro f5 (And.intro f6 (And.intro f7 (And.intro f8 (And.intro f9 (And.intro f10 (And.intro f11 (And.intro f12 f13)))))))))))))))
                      clear f0 f1 f2 f3 f4 f5 f6 f7 f8 f9 f10 f11 f12 f13 hB hdp hl hd
                      refine Opn.mk ?_
                      dsimp only
                      go_simp
                      obtain ⟨hl, hB, f0, f1, f2, f3, f4, f5, f6, f7, f8, f9, f10, f11, f12, f13⟩ := HF.out
                      exact hK.out (x114, x115, x116, x117, x118, x119, x120, x121, .pointer (some ⟨w.heap.size, 1, none⟩), x123, x124, x125, x126, x127) _ (.inl ⟨by rw [upd_no (by decide)]; exact hl, hB.trans (Below.mono (Below.refl w'.heap.size w') hB.size), (fun h0 => by first | exact (f0 (upd_ne h0 (by decide))).up (Below.refl w'.heap.size w') | exact fun _ _ => rfl), (fun h1 => by first | exact (f1 (upd_ne h1 (by decide))).up (Below.refl w'.heap.size w') | exact fun _ _ => rfl), (fun h2 => by first | exact (f2 (upd_ne h2 (by decide))).up (Below.refl w'.heap.size w') | exact fun _ _ => rfl), (fun h3 => by first | exact (f3 (upd_ne h3 (by decide))).up (Below.refl w'.heap.size w') | exact fun _ _ => rfl), (fun h4 => by first | exact (f4 (upd_ne h4 (by decide))).up (Below.refl w'.heap.size w') | exact fun _ _ => rfl), (fun h5 => by first | exact (f5 (upd_ne h5 (by decide))).up (Below.refl w'.heap.size w') | exact fun _ _ => rfl), (fun h6 => by first | exact (f6 (upd_ne h6 (by decide))).up (Below.refl w'.heap.size w') | exact fun _ _ => rfl), (fun h7 => by first | exact (f7 (upd_ne h7 (by decide))).up (Below.refl w'.heap.size w') | exact fun _ _ => rfl), (fun _ => fun _ _ => rfl), (fun h9 => by first | exact (f9 (upd_ne h9 (by decide))).up (Below.refl w'.heap.size w') | exact fun _ _ => rfl), (fun h10 => by first | exact (f10 (upd_ne h10 (by decide))).up (Below.refl w'.heap.size w') | exact fun _ _ => rfl), (fun h11 => by first | exact (f11 (upd_ne h11 (by decide))).up (Below.refl w'.heap.size w') | exact fun _ _ => rfl), (fun h12 => by first | exact (f12 (upd_ne h12 (by decide))).up (Below.refl w'.heap.size w') | exact fun _ _ => rfl), (fun h13 => by first | exact (f13 (upd_ne h13 (by decide))).up (Below.refl w'.heap.size w') | exact fun _ _ => rfl)⟩)
                    · rintro d ⟨x114, x115, x116, x117, x118, x119, x120, x121, x122, x123, x124, x125, x126, x127⟩ w' hI hd hdp K hK
                      dsimp only at hI
                      rcases hI with ⟨hl, hB, f0, f1, f2, f3, f4, f5, f6, f7, f8, f9, f10, f11, f12, f13⟩ | ⟨hall, -⟩
                      case inr => exact absurd (hall 9 (by decide)) (by rw [hd]; decide)
                      obtain rfl := (f8 (hdp 8 (by decide +kernel))).now
                      have c0 := cell_up hB q1
                      have HF : Hid _ := (And.intro hl (And.intro hB (And.intro f0 (And.intro f1 (And.intro f2 (And.intro f3 (And.intro f4 (And.intro f5 (And.intro f6 (And.intro f7 (And.intro f8 (And.intro f9 (And.intro f10 (And.intro f11 (And.intro f12 f13)))))))))))))))
                      clear f0 f1 f2 f3 f4 f5 f6 f7 f8 f9 f10 f11 f12 f13 hB hdp hl hd
                      refine Opn.mk ?_
                      dsimp only
                      go_simp
                      obtain ⟨hl, hB, f0, f1, f2, f3, f4, f5, f6, f7, f8, f9, f10, f11, f12, f13⟩ := HF.out
                      exact hK.out (x114, x115, x116, x117, x118, x119, x120, x121, .pointer (some ⟨w.heap.size, 1, none⟩), .int .i64 (cc : Int), x124, x125, x126, x127) _ (.inl ⟨by rw [upd_no (by decide)]; exact hl, hB.trans (Below.mono (Below.refl w'.heap.size w') hB.size), (fun h0 => by first | exact (f0 (upd_ne h0 (by decide))).up (Below.refl w'.heap.size w') | exact fun _ _ => rfl), (fun h1 => by first | exact (f1 (upd_ne h1 (by decide))).up (Below.refl w'.heap.size w') | exact fun _ _ => rfl), (fun h2 => by first | exact (f2 (upd_ne h2 (by decide))).up (Below.refl w'.heap.size w') | exact fun _ _ => rfl), (fun h3 => by first | exact (f3 (upd_ne h3 (by decide))).up (Below.refl w'.heap.size w') | exact fun _ _ => rfl), (fun h4 => by first | exact (f4 (upd_ne h4 (by decide))).up (Below.refl w'.heap.size w') | exact fun _ _ => rfl), (fun h5 => by first | exact (f5 (upd_ne h5 (by decide))).up (Below.refl w'.heap.size w') | exact fun _ _ => rfl), (fun h6 => by first | exact (f6 (upd_ne h6 (by decide))).up (Below.refl w'.heap.size w') | exact fun _ _ => rfl), (fun h7 => by first | exact (f7 (upd_ne h7 (by decide))).up (Below.refl w'.heap.size w') | exact fun _ _ => rfl), (fun h8 => by first | exact (f8 (upd_ne h8 (by decide))).up (Below.refl w'.heap.size w') | exact fun _ _ => rfl), (fun _ => fun _ _ => rfl), (fun h10 => by first | exact (f10 (upd_ne h10 (by decide))).up (Below.refl w'.heap.size w') | exact fun _ _ => rfl), (fun h11 => by first | exact (f11 (upd_ne h11 (by decide))).up (Below.refl w'.heap.size w') | exact fun _ _ => rfl), (fun h12 => by first | exact (f12 (upd_ne h12 (by decide))).up (Below.refl w'.heap.size w') | exact fun _ _ => rfl), (fun h13 => by first | exact (f13 (upd_ne h13 (by decide))).up (Below.refl w'.heap.size w') | exact fun _ _ => rfl)⟩)
                    · rintro d ⟨x114, x115, x116, x117, x118, x119, x120, x121, x122, x123, x124, x125, x126, x127⟩ w' hI hd hdp K hK
                      dsimp only at hI
                      rcases hI with ⟨hl, hB, f0, f1, f2, f3, f4, f5, f6, f7, f8, f9, f10, f11, f12, f13⟩ | ⟨hall, -⟩
                      case inr => exact absurd (hall 10 (by decide)) (by rw [hd]; decide)
                      obtain rfl := (f7 (hdp 7 (by decide +kernel))).now
                      obtain rfl := (f9 (hdp 9 (by decide +kernel))).now
                      have HF : Hid _ := (And.intro hl (And.intro hB (And.intro f0 (And.intro f1 (And.intro f2 (And.intro f3 (And.intro f4 (And.intro f5 (And.intro f6 (And.intro f7 (And.intro f8 (And.intro f9 (And.intro f10 (And.intro f11 (And.intro f12 f13)))))))))))))))
                      clear f0 f1 f2 f3 f4 f5 f6 f7 f8 f9 f10 f11 f12 f13 hB hdp hl hd
                      refine Opn.mk ?_
                      dsimp only
                      go_simp
                      obtain ⟨hl, hB, f0, f1, f2, f3, f4, f5, f6, f7, f8, f9, f10, f11, f12, f13⟩ := HF.out
                      exact hK.out (x114, x115, x116, x117, x118, x119, x120, .slice (some ⟨bd, od, none⟩) 2 cd, x122, .int .i64 (cc : Int), .pointer (some ⟨bd, od + cc, none⟩), x125, x126, x127) _ (.inl ⟨by rw [upd_no (by decide)]; exact hl, hB.trans (Below.mono (Below.refl w'.heap.size w') hB.size), (fun h0 => by first | exact (f0 (upd_ne h0 (by decide))).up (Below.refl w'.heap.size w') | exact fun _ _ => rfl), (fun h1 => by first | exact (f1 (upd_ne h1 (by decide))).up (Below.refl w'.heap.size w') | exact fun _ _ => rfl), (fun h2 => by first | exact (f2 (upd_ne h2 (by decide))).up (Below.refl w'.heap.size w') | exact fun _ _ => rfl), (fun h3 => by first | exact (f3 (upd_ne h3 (by decide))).up (Below.refl w'.heap.size w') | exact fun _ _ => rfl), (fun h4 => by first | exact (f4 (upd_ne h4 (by decide))).up (Below.refl w'.heap.size w') | exact fun _ _ => rfl), (fun h5 => by first | exact (f5 (upd_ne h5 (by decide))).up (Below.refl w'.heap.size w') | exact fun _ _ => rfl), (fun h6 => by first | exact (f6 (upd_ne h6 (by decide))).up (Below.refl w'.heap.size w') | exact fun _ _ => rfl), (fun h7 => by first | exact (f7 (upd_ne h7 (by decide))).up (Below.refl w'.heap.size w') | exact fun _ _ => rfl), (fun h8 => by first | exact (f8 (upd_ne h8 (by decide))).up (Below.refl w'.heap.size w') | exact fun _ _ => rfl), (fun h9 => by first | exact (f9 (upd_ne h9 (by decide))).up (Below.refl w'.heap.size w') | exact fun _ _ => rfl), (fun _ => fun _ _ => rfl), (fun h11 => by first | exact (f11 (upd_ne h11 (by decide))).up (Below.refl w'.heap.size w') | exact fun _ _ => rfl), (fun h12 => by first | exact (f12 (upd_ne h12 (by decide))).up (Below.refl w'.heap.size w') | exact fun _ _ => rfl), (fun h13 => by first | exact (f13 (upd_ne h13 (by decide))).up (Below.refl w'.heap.size w') | exact fun _ _ => rfl)⟩)
                    · rintro d ⟨x114, x115, x116, x117, x118, x119, x120, x121, x122, x123, x124, x125, x126, x127⟩ w' hI hd hdp K hK
                      dsimp only at hI
                      rcases hI with ⟨hl, hB, f0, f1, f2, f3, f4, f5, f6, f7, f8, f9, f10, f11, f12, f13⟩ | ⟨hall, -⟩
                      case inr => exact absurd (hall 11 (by decide)) (by rw [hd]; decide)
                      obtain rfl := (f10 (hdp 10 (by decide +kernel))).now
                      have c0 := cell_up hB td
                      have HF : Hid _ := (And.intro hl (And.intro hB (And.intro f0 (And.intro f1 (And.intro f2 (And.intro f3 (And.intro f4 (And.intro f5 (And.intro f6 (And.intro f7 (And.intro f8 (And.intro f9 (And.intro f10 (And.intro f11 (And.intro f12 f13)))))))))))))))
                      clear f0 f1 f2 f3 f4 f5 f6 f7 f8 f9 f10 f11 f12 f13 hB hdp hl hd
                      refine Opn.mk ?_
                      dsimp only
                      go_simp
                      obtain ⟨hl, hB, f0, f1, f2, f3, f4, f5, f6, f7, f8, f9, f10, f11, f12, f13⟩ := HF.out
                      exact hK.out (x114, x115, x116, x117, x118, x119, x120, x121, x122, x123, .pointer (some ⟨bd, od + cc, none⟩), .string ⟨tx.toArray⟩, x126, x127) _ (.inl ⟨by rw [upd_no (by decide)]; exact hl, hB.trans (Below.mono (Below.refl w'.heap.size w') hB.size), (fun h0 => by first | exact (f0 (upd_ne h0 (by decide))).up (Below.refl w'.heap.size w') | exact fun _ _ => rfl), (fun h1 => by first | exact (f1 (upd_ne h1 (by decide))).up (Below.refl w'.heap.size w') | exact fun _ _ => rfl), (fun h2 => by first | exact (f2 (upd_ne h2 (by decide))).up (Below.refl w'.heap.size w') | exact fun _ _ => rfl), (fun h3 => by first | exact (f3 (upd_ne h3 (by decide))).up (Below.refl w'.heap.size w') | exact fun _ _ => rfl), (fun h4 => by first | exact (f4 (upd_ne h4 (by decide))).up (Below.refl w'.heap.size w') | exact fun _ _ => rfl), (fun h5 => by first | exact (f5 (upd_ne h5 (by decide))).up (Below.refl w'.heap.size w') | exact fun _ _ => rfl), (fun h6 => by first | exact (f6 (upd_ne h6 (by decide))).up (Below.refl w'.heap.size w') | exact fun _ _ => rfl), (fun h7 => by first | exact (f7 (upd_ne h7 (by decide))).up (Below.refl w'.heap.size w') | exact fun _ _ => rfl), (fun h8 => by first | exact (f8 (upd_ne h8 (by decide))).up (Below.refl w'.heap.size w') | exact fun _ _ => rfl), (fun h9 => by first | exact (f9 (upd_ne h9 (by decide))).up (Below.refl w'.heap.size w') | exact fun _ _ => rfl), (fun h10 => by first | exact (f10 (upd_ne h10 (by decide))).up (Below.refl w'.heap.size w') | exact fun _ _ => rfl), (fun _ => fun _ _ => rfl), (fun h12 => by first | exact (f12 (upd_ne h12 (by decide))).up (Below.refl w'.heap.size w') | exact fun _ _ => rfl), (fun h13 => by first | exact (f13 (upd_ne h13 (by decide))).up (Below.refl w'.heap.size w') | exact fun _ _ => rfl)⟩)
                    · rintro d ⟨x114, x115, x116, x117, x118, x119, x120, x121, x122, x123, x124, x125, x126, x127⟩ w' hI hd hdp K hK
                      dsimp only at hI
                      rcases hI with ⟨hl, hB, f0, f1, f2, f3, f4, f5, f6, f7, f8, f9, f10, f11, f12, f13⟩ | ⟨hall, -⟩
                      case inr => exact absurd (hall 12 (by decide)) (by rw [hd]; decide)
                      obtain rfl := (f1 (hdp 1 (by decide +kernel))).now
                      obtain rfl := (f11 (hdp 11 (by decide +kernel))).now
                      have kk := kPut.out w' hB
                      have HBL : Hid (B5 < w'.heap.size) := (bx.up hB).lt
                      have HF : Hid _ := (And.intro hl (And.intro hB (And.intro f0 (And.intro f1 (And.intro f2 (And.intro f3 (And.intro f4 (And.intro f5 (And.intro f6 (And.intro f7 (And.intro f8 (And.intro f9 (And.intro f10 (And.intro f11 (And.intro f12 f13)))))))))))))))
                      clear f0 f1 f2 f3 f4 f5 f6 f7 f8 f9 f10 f11 f12 f13 hB hdp hl hd
                      refine Opn.mk ?_
                      dsimp only
                      go_simp
                      go_wp2_with (first | (go_at_call 28; with_reducible refine kk.mono ?_; rintro e5 w5 ⟨v5, rfl, own5, b5⟩; obtain ⟨aa, na, ca, rfl⟩ := own_sl own5))
                      obtain ⟨hl, hB, f0, f1, f2, f3, f4, f5, f6, f7, f8, f9, f10, f11, f12, f13⟩ := HF.out
                      exact hK.out (x114, .slice ra rl rc, x116, x117, x118, x119, x120, x121, x122, x123, x124, .string ⟨tx.toArray⟩, .slice aa na ca, x127) _ (.inl ⟨by rw [upd_no (by decide)]; exact hl, hB.trans (Below.mono (b5) hB.size), (fun h0 => by first | exact (f0 (upd_ne h0 (by decide))).up (b5) | exact fun _ _ => rfl), (fun h1 => by first | exact (f1 (upd_ne h1 (by decide))).up (b5) | exact fun _ _ => rfl), (fun h2 => by first | exact (f2 (upd_ne h2 (by decide))).up (b5) | exact fun _ _ => rfl), (fun h3 => by first | exact (f3 (upd_ne h3 (by decide))).up (b5) | exact fun _ _ => rfl), (fun h4 => by first | exact (f4 (upd_ne h4 (by decide))).up (b5) | exact fun _ _ => rfl), (fun h5 => by first | exact (f5 (upd_ne h5 (by decide))).up (b5) | exact fun _ _ => rfl), (fun h6 => by first | exact (f6 (upd_ne h6 (by decide))).up (b5) | exact fun _ _ => rfl), (fun h7 => by first | exact (f7 (upd_ne h7 (by decide))).up (b5) | exact fun _ _ => rfl), (fun h8 => by first | exact (f8 (upd_ne h8 (by decide))).up (b5) | exact fun _ _ => rfl), (fun h9 => by first | exact (f9 (upd_ne h9 (by decide))).up (b5) | exact fun _ _ => rfl), (fun h10 => by first | exact (f10 (upd_ne h10 (by decide))).up (b5) | exact fun _ _ => rfl), (fun h11 => by first | exact (f11 (upd_ne h11 (by decide))).up (b5) | exact fun _ _ => rfl), (fun _ => fun X bX => ⟨aa, na, ca, rfl, (New.of own5).mono HBL.out, fun u => (rds_of_own (own_below own5 bX)).off ((New.of own5).mono HBL.out) (Nat.lt_succ_self _) u⟩), (fun h13 => by first | exact (f13 (upd_ne h13 (by decide))).up (b5) | exact fun _ _ => rfl)⟩)
                    · rintro d ⟨x114, x115, x116, x117, x118, x119, x120, x121, x122, x123, x124, x125, x126, x127⟩ w' hI hd hdp K hK
                      dsimp only at hI
                      rcases hI with ⟨hl, hB, f0, f1, f2, f3, f4, f5, f6, f7, f8, f9, f10, f11, f12, f13⟩ | ⟨hall, -⟩
                      case inr => exact absurd (hall 13 (by decide)) (by rw [hd]; decide)
                      skip
                      have HF : Hid _ := (And.intro hl (And.intro hB (And.intro f0 (And.intro f1 (And.intro f2 (And.intro f3 (And.intro f4 (And.intro f5 (And.intro f6 (And.intro f7 (And.intro f8 (And.intro f9 (And.intro f10 (And.intro f11 (And.intro f12 f13)))))))))))))))
                      clear f0 f1 f2 f3 f4 f5 f6 f7 f8 f9 f10 f11 f12 f13 hB hdp hl hd
                      refine Opn.mk ?_
                      dsimp only
                      go_simp
                      obtain ⟨hl, hB, f0, f1, f2, f3, f4, f5, f6, f7, f8, f9, f10, f11, f12, f13⟩ := HF.out
                      exact hK.out (x114, x115, x116, x117, x118, x119, x120, x121, x122, x123, x124, x125, x126, .pointer (some ⟨B5, 2, none⟩)) _ (.inl ⟨by rw [upd_no (by decide)]; exact hl, hB.trans (Below.mono (Below.refl w'.heap.size w') hB.size), (fun h0 => by first | exact (f0 (upd_ne h0 (by decide))).up (Below.refl w'.heap.size w') | exact fun _ _ => rfl), (fun h1 => by first | exact (f1 (upd_ne h1 (by decide))).up (Below.refl w'.heap.size w') | exact fun _ _ => rfl), (fun h2 => by first | exact (f2 (upd_ne h2 (by decide))).up (Below.refl w'.heap.size w') | exact fun _ _ => rfl), (fun h3 => by first | exact (f3 (upd_ne h3 (by decide))).up (Below.refl w'.heap.size w') | exact fun _ _ => rfl), (fun h4 => by first | exact (f4 (upd_ne h4 (by decide))).up (Below.refl w'.heap.size w') | exact fun _ _ => rfl), (fun h5 => by first | exact (f5 (upd_ne h5 (by decide))).up (Below.refl w'.heap.size w') | exact fun _ _ => rfl), (fun h6 => by first | exact (f6 (upd_ne h6 (by decide))).up (Below.refl w'.heap.size w') | exact fun _ _ => rfl), (fun h7 => by first | exact (f7 (upd_ne h7 (by decide))).up (Below.refl w'.heap.size w') | exact fun _ _ => rfl), (fun h8 => by first | exact (f8 (upd_ne h8 (by decide))).up (Below.refl w'.heap.size w') | exact fun _ _ => rfl), (fun h9 => by first | exact (f9 (upd_ne h9 (by decide))).up (Below.refl w'.heap.size w') | exact fun _ _ => rfl), (fun h10 => by first | exact (f10 (upd_ne h10 (by decide))).up (Below.refl w'.heap.size w') | exact fun _ _ => rfl), (fun h11 => by first | exact (f11 (upd_ne h11 (by decide))).up (Below.refl w'.heap.size w') | exact fun _ _ => rfl), (fun h12 => by first | exact (f12 (upd_ne h12 (by decide))).up (Below.refl w'.heap.size w') | exact fun _ _ => rfl), (fun _ => fun _ _ => rfl)⟩)
                    · rintro d ⟨x114, x115, x116, x117, x118, x119, x120, x121, x122, x123, x124, x125, x126, x127⟩ w' hI hd hdp K hK
                      dsimp only at hI
                      rcases hI with ⟨hl, hB, f0, f1, f2, f3, f4, f5, f6, f7, f8, f9, f10, f11, f12, f13⟩ | ⟨hall, -⟩
                      case inr => exact absurd (hall 14 (by decide)) (by rw [hd]; decide)
                      have hall : ∀ j, j < 15 → upd d 14 j = true := fun j hj => by
                        rcases (by omega : j = 0 ∨ j = 1 ∨ j = 2 ∨ j = 3 ∨ j = 4 ∨ j = 5 ∨ j = 6 ∨ j = 7 ∨ j = 8 ∨ j = 9 ∨ j = 10 ∨ j = 11 ∨ j = 12 ∨ j = 13 ∨ j = 14) with rfl | rfl | rfl | rfl | rfl | rfl | rfl | rfl | rfl | rfl | rfl | rfl | rfl | rfl | rfl
                        all_goals first | rfl | (rw [upd_no (by decide)]; exact hdp _ (by decide +kernel))
                      obtain ⟨aa, na, ca, e126, hnw, hrd⟩ := (f12 (hdp 12 (by decide +kernel))).now
                      obtain rfl := (f13 (hdp 13 (by decide +kernel))).now
                      subst e126
                      obtain ⟨c0, c1, c2, cf⟩ := bx.up hB
                      have HH : Hid _ := And.intro hall (And.intro hnw hrd)
                      clear hall hnw hrd
                      have HF : Hid _ := (And.intro hl (And.intro hB (And.intro f0 (And.intro f1 (And.intro f2 (And.intro f3 (And.intro f4 (And.intro f5 (And.intro f6 (And.intro f7 (And.intro f8 (And.intro f9 (And.intro f10 (And.intro f11 (And.intro f12 f13)))))))))))))))
                      clear f0 f1 f2 f3 f4 f5 f6 f7 f8 f9 f10 f11 f12 f13 hB hdp hl hd
                      refine Opn.mk ?_
                      dsimp only
                      go_simp
                      obtain ⟨hl, hB, f0, f1, f2, f3, f4, f5, f6, f7, f8, f9, f10, f11, f12, f13⟩ := HF.out
                      exact hK.out (x114, x115, x116, x117, x118, x119, x120, x121, x122, x123, x124, x125, .slice aa na ca, .pointer (some ⟨B5, 2, none⟩)) _ (.inr ⟨HH.out.1, w', aa, na, ca, hB, HH.out.2.1, HH.out.2.2 _, rfl⟩)
                  case he114 =>
                    rintro d ⟨x114, x115, x116, x117, x118, x119, x120, x121, x122, x123, x124, x125, x126, x127⟩ w' hall hI
                    dsimp only at hI
                    rcases hI with ⟨hl, -⟩ | ⟨-, X, aa, na, ca, bX, hnw, hrd, hX⟩
                    · exact absurd (hall 14 (by decide)) (by rw [hl]; decide)
                    have HX : Hid (∃ r : Pt, Box3 w' B5 (.int .u64 r.n) (.int .i64 r.v) r.tv ∧ r.Ok w' ∧ r.p0 = (l.take (i + 1)).foldl (rstep k (cc : Int)) U0 ∧ New (B5 + 1) r.tv ∧ Below W1.heap.size W1 w') := by
                      have hx := bx.up bX
                      refine ⟨⟨IntKind.u64.wrap (rn + (nn : Int)), rv, .slice aa na ca, putT rts tx⟩, ?_, ⟨hrd⟩, ?_, hnw, ?_⟩
                      · rw [hX]
                        exact ⟨by rw [World.cell?_setCell_other _ _ _ _ (by simp)]; exact hx.c0, by rw [World.cell?_setCell_other _ _ _ _ (by simp)]; exact hx.c1, World.cell?_setCell_same _ _ _ hx.c2, fun c => by simpa using hx.fr c⟩
                      · rw [HJ.out, HK5.out]; rfl
                      · rw [hX]; exact (HB7.out.2.2.trans (bX.mono HB7.out.2.2.size)).setCell (p := ⟨B5, 2, none⟩) HB5.out _
                    clear hall hX bX hnw hrd
                    dsimp only
                    go_wp2_with fail
                    go_roundg (n - (i + 1))
                    case measure => omega
                    case rel => exact ⟨i + 1, by go_num, HF.out, by omega, Nat.le_refl _, HX⟩
                · have hk5b : (k == 5) = false := by simp [hk5]
                  have HX : Hid _ := stN.out wB (Below.refl _ _) (by rw [HJ.out, if_neg hk2, if_neg hk3, if_neg hk4, if_neg hk5])
                  clear hk2 hk3 hk4 hk5 stN stV kPut _hk15
                  go_wp2_with fail
                  go_roundg (n - (i + 1))
                  case measure => omega
                  case rel => exact ⟨i + 1, by go_num, HF.out, by omega, Nat.le_refl _, HX⟩
    · have hltz : ¬ (i : Int) < (n : Int) := by omega
      obtain ⟨r, bx5, okr, hr, hnr, hbw⟩ := HX0.out
      have hli : l.take i = l := List.take_of_length_le (by have := HN.out; omega)
      rw [hli] at hr
      obtain ⟨rn, rv, rtv, rts⟩ := r
      obtain ⟨a5, n5, c5, h5⟩ := okr.rt.sl
      simp only at h5
      subst h5
      have bx4 := HBX1.out.up hbw
      have HP : Hid _ := bx4.put (.int .u64 rn) (.int .i64 rv) (.slice a5 n5 c5)
      have HO : Hid (Pt.Ok wr ⟨rn, rv, .slice a5 n5 c5, rts⟩ ∧ (rn, rv, rts) = l.foldl (rstep k (cc : Int)) U0 ∧ New (B5 + 1) (.slice a5 n5 c5) ∧ Below W1.heap.size W1 wr) := ⟨okr, hr, hnr, hbw⟩
      obtain ⟨y0, y1, y2, yf⟩ := bx4
      simp only at bx5
      obtain ⟨z0, z1, z2, -⟩ := bx5
      clear okr hr hnr hbw hli
      go_wp2_with fail
      obtain ⟨Y, hY⟩ : ∃ Y, Y = put3 wr (w.heap.size + 1) (.int .u64 rn) (.int .i64 rv) (.slice a5 n5 c5) := ⟨_, rfl⟩
      have hb := HP.out
      rw [← hY] at hb
      rw [show ((wr.setCell ⟨w.heap.size + 1, 0, none⟩ (.int .u64 rn)).setCell ⟨w.heap.size + 1, 1, none⟩ (.int .i64 rv)).setCell ⟨w.heap.size + 1, 2, none⟩ (.slice a5 n5 c5) = Y from hY.symm]
      obtain ⟨x0, x1, x2, -⟩ := hb
      refine bodyPost_ret (by simp [results, Try.results17, go_sem, x0, x1, x2]; try rfl) rfl ?_
      obtain ⟨i0, i1, i2, i3⟩ := HO.out
      have hws := HWS.out
      have hgs := HG1.out.1.size
      have h5s := HB5.out
      refine ⟨⟨rn, rv, .slice a5 n5 c5, rts⟩, rfl, ?_, i2.mono (by omega), i1, ?_⟩
      · rw [hY]
        exact i0.put3 i2 (by omega) _ _ _
      · rw [hY]
        exact below_put3 (HG1.out.1.trans (i3.mono (by omega))) (by omega) _ _ _
end Go.Proofs.Ytkoihniggoelnaa
