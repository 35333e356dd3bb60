/- The walk of AggBags. -/
import Derived.Test.YtkoihniggoelnaaTrn
import Derived.Test.YtkoihniggoelnaaBgM
import Derived.Test.YtkoihniggoelnaaFa3
namespace Go.Proofs.Ytkoihniggoelnaa
open Go.RowKit Go.Sort

/-- Each fact by itself, as often as it is there (less all fives). -/
def sgl (l : List En) : List En := l.flatMap fun e => List.replicate (e.n % 5) ⟨e.f, 1⟩
theorem sgl_take (l : List En) (i : Nat) (h : i < l.length) : sgl (l.take (i + 1)) = sgl (l.take i) ++ List.replicate (l[i].n % 5) ⟨l[i].f, 1⟩ := by
  unfold sgl
  rw [List.take_succ_eq_append_getElem h, List.flatMap_append]
  simp
theorem sgl_len (l : List En) : (sgl l).length ≤ 4 * l.length := by
  induction l with
  | nil => simp [sgl]
  | cons e l ih =>
    have : sgl (e :: l) = List.replicate (e.n % 5) ⟨e.f, 1⟩ ++ sgl l := by simp [sgl]
    rw [this, List.length_append, List.length_replicate, List.length_cons]; omega
theorem sgl_mem {l : List En} {e : En} (h : e ∈ sgl l) : ∃ x ∈ l, e = ⟨x.f, 1⟩ := by
  unfold sgl at h
  obtain ⟨x, hx, he⟩ := List.mem_flatMap.1 h
  exact ⟨x, hx, (List.mem_replicate.1 he).2⟩
theorem sgl_tot (l : List En) : tot (sgl l) ≤ 4 * l.length := by
  have h := tot_le (sgl l) 1 fun e he => by obtain ⟨x, _, rfl⟩ := sgl_mem he; exact Nat.le_refl _
  have := sgl_len l
  omega
theorem sgl_ok {l : List En} (h : AOk l) : AOk (sgl l) := fun e he => by obtain ⟨x, hx, rfl⟩ := sgl_mem he; exact h x hx
theorem rep_succ {α : Type} (x : α) (n : Nat) : List.replicate n x ++ [x] = List.replicate (n + 1) x := by rw [List.replicate_succ']
theorem ev_fr (l : List En) : Fa.ev (l.map frE) = ev l := by
  induction l with
  | nil => rfl
  | cons e l ih => 
    have h1 : ev (e :: l) = e.cells ++ ev l := by simp [ev]
    have h2 : Fa.ev ((e :: l).map frE) = (frE e).cells ++ Fa.ev (l.map frE) := by simp [Fa.ev]
    rw [h1, h2, ih]; rfl
theorem ev_to (l : List Fa.En) : ev (l.map toE) = Fa.ev l := by
  induction l with
  | nil => rfl
  | cons e l ih => 
    have h1 : Fa.ev (e :: l) = e.cells ++ Fa.ev l := by simp [Fa.ev]
    have h2 : ev ((e :: l).map toE) = (toE e).cells ++ ev (l.map toE) := by simp [ev]
    rw [h1, h2, ih]; rfl
theorem fr_rds {w : World} {v : Value} {l : List En} (h : RdsM w v l) (h2 : ∀ e ∈ l, e.f.ds.length = 2 ∧ e.f.ms.length = 2 ∧ e.n < 18446744073709551616) : Fa.RdsM w v (l.map frE) := by
  refine ⟨?_, fun e he => ?_⟩
  · rw [List.length_map, ev_fr]; exact h.r
  · obtain ⟨x, hx, rfl⟩ := List.mem_map.1 he
    obtain ⟨k1, k2, k3⟩ := h2 x hx
    have ho := h.ok x hx
    exact ⟨⟨ho.rd, ho.rm, by show x.f.ds.length * 16 ≤ _; omega, by show x.f.ms.length * 8 ≤ _; omega⟩, k3⟩
theorem to_rds {w : World} {v : Value} {l : List Fa.En} (h : Fa.RdsM w v l) : RdsM w v (l.map toE) := by
  refine ⟨?_, fun e he => ?_⟩
  · rw [List.length_map, ev_to]; exact h.r
  · obtain ⟨x, hx, rfl⟩ := List.mem_map.1 he
    have ho := (h.ok x hx).f
    exact ⟨ho.rd, ho.rm⟩

theorem smax (m : Nat) (h : m ≤ 2000) : m ≤ maxLen := by unfold maxLen; omega
theorem sby (m : Nat) (h : m ≤ 2000) : (m + m / 4 + 192) * 64 ≤ 281474976710656 := by omega
/-- What the last line needs. -/
structure BgS (wr : World) (k : Int) (cc : Nat) (Bb : Nat) (sv : Value) (s : List En) : Prop where
  hb : wr.cell? ⟨Bb, 0, none⟩ = some (.int .i64 k) ∧ wr.cell? ⟨Bb, 1, none⟩ = some (.int .i64 (cc : Int))
  rs : RdsM wr sv s
  ok : AOk s
  tt : tot s < 18446744073709551616
  ln : s.length ≤ 160
  l2 : ∀ e ∈ s, e.f.ds.length = 2 ∧ e.f.ms.length = 2 ∧ e.n < 18446744073709551616
theorem BgS.kOf {wr : World} {k : Int} {cc Bb : Nat} {sv : Value} {s : List En} (h : BgS wr k cc Bb sv s) (X : World) (b : Below wr.heap.size wr X) :
    Calls Try.prog 16 #[.agg #[.int .i64 k, .int .i64 (cc : Int)], sv] X (Gives (ofP k cc s) X) :=
  of_any X k cc _ s (h.rs.below b) h.ok h.tt (by have := h.ln; omega)
def GivesM (s : List En) (w : World) (e : Ending) (w' : World) : Prop := ∃ v', e = .returned v' ∧ RdsM w' v' ((Fa.ownL (s.map frE)).map toE) ∧ Below w.heap.size w w'
theorem BgS.kOwn {wr : World} {k : Int} {cc Bb : Nat} {sv : Value} {s : List En} (h : BgS wr k cc Bb sv s) (X : World) (b : Below wr.heap.size wr X) :
    Calls Try.prog 24 #[sv] X (GivesM s X) :=
  (Fa.refown_any X sv (s.map frE) (fr_rds (h.rs.below b) h.l2) (by rw [List.length_map]; have := h.ln; omega)).mono fun _ _ ⟨v', e, r, bl⟩ => ⟨v', e, to_rds r, bl⟩
theorem BgS.kOf2 {wr : World} {k : Int} {cc Bb : Nat} {sv : Value} {s : List En} (h : BgS wr k cc Bb sv s) (X : World) (v : Value) (r : RdsM X v ((Fa.ownL (s.map frE)).map toE)) :
    Calls Try.prog 16 #[.agg #[.int .i64 k, .int .i64 (cc : Int)], v] X (Gives (ofP k cc s) X) := by
  obtain ⟨i1, i2, i3⟩ := own_of (k := k) (c := (cc : Int)) s h.ok h.tt
  have hl := Fa.ownL_len (s.map frE)
  rw [List.length_map] at hl
  have := of_any X k cc v _ r i2 (by rw [i3]; exact h.tt) (by rw [List.length_map]; have := h.ln; omega)
  rw [i1] at this
  exact this

set_option maxRecDepth 100000 in
set_option maxHeartbeats 8000000 in
theorem bags_walk (w : World) (k c : Int) (v1 : Value) (l1 : List En) (h1 : RdsM w v1 l1) (hk : In64 k) (hc : In64 c) :
    Calls Try.prog 9 #[.agg #[.int .i64 k, .int .i64 c], v1] w fun e w' => e = .returned (.bool true) ∧ Below w.heap.size w w' := by
  obtain ⟨o1, n1, p1, rfl⟩ := h1.sl
  obtain ⟨W, hW⟩ : ∃ W, W = w.alloc (.cells #[.int .i64 k, .int .i64 c] 26) := ⟨_, rfl⟩
  have gW : Below w.heap.size w W := by rw [hW]; exact (Grows.alloc _ _).below
  have ha0 : W.cell? ⟨w.heap.size, 0, none⟩ = some (.int .i64 k) ∧ W.cell? ⟨w.heap.size, 1, none⟩ = some (.int .i64 c) := by rw [hW]; exact ⟨al_new _ _ _ rfl rfl, al_new _ _ _ rfl rfl⟩
  have kA := awake_any W
  have mixed : Try.prog.follows .mixedOrders = true := by kernel_rfl
  rw [hW] at kA
  have HW : Hid _ := hW
  have HG : Hid _ := And.intro gW (And.intro ha0 (h1.below gW))
  clear h1 hW gW ha0
  go_enter Try.func9, Try.ntmps9
  go_wp2_with fail
  refine kA.mono ?_
  rintro e U ⟨rfl, bU⟩
  rw [← HW.out] at bU
  obtain ⟨gW, ha0, r1⟩ := HG.out
  have c0 := cell_up bU ha0.1
  have c1 := cell_up bU ha0.2
  have kR := right_any U k c _ l1 (r1.below bU) hk hc
  have HU : Hid _ := gW.trans (bU.mono gW.size)
  clear kA bU gW ha0 r1 HG HW
  go_wp2_with fail
  refine kR.mono ?_
  rintro e X ⟨k', c', vx, x, rfl, hkc, rx, fx, lx, bX⟩
  obtain ⟨xa, xl, xc, rfl⟩ := rx.sl
  have b0 := HU.out
  obtain ⟨Y, hY⟩ : ∃ Y, Y = (X.alloc (.cells #[.int .i64 2, .int .i64 2] 23)).alloc (.cells #[.int .i64 k', .int .i64 c'] 26) := ⟨_, rfl⟩
  have gY : Below X.heap.size X Y := by rw [hY]; exact ((Grows.alloc _ _).trans (Grows.alloc _ _)).below
  have hb : Y.cell? ⟨X.heap.size + 1, 0, none⟩ = some (.int .i64 k') ∧ Y.cell? ⟨X.heap.size + 1, 1, none⟩ = some (.int .i64 c') := by
    rw [hY]; exact ⟨al_new _ _ _ (by simp) rfl, al_new _ _ _ (by simp) rfl⟩
  have bUY : Below U.heap.size U Y := bX.trans (gY.mono bX.size)
  have dx : ∀ e ∈ x, e.f.ds.length = 2 ∧ e.f.ms.length = 2 := fun e he => ⟨(fx e he).ld, (fx e he).lm⟩
  have ax := fe_aok fx
  obtain ⟨cc, rfl⟩ : ∃ cc : Nat, c' = (cc : Int) := ⟨c'.toNat, by omega⟩
  have exl := rx.len.1
  have hxl : xl ≤ 40 := by rw [exl]; exact lx
  have HX : Hid (RdsM Y (.slice xa xl xc) x ∧ xl = x.length ∧ AOk x ∧ (∀ e ∈ x, e.f.ds.length = 2 ∧ e.f.ms.length = 2) ∧ Below w.heap.size w Y) := ⟨rx.below gY, exl, ax, dx, b0.trans (bUY.mono b0.size)⟩
  have HHB : Hid _ := hb
  have HY : Hid (Y = (X.alloc (.cells #[.int .i64 2, .int .i64 2] 23)).alloc (.cells #[.int .i64 k', .int .i64 (cc : Int)] 26)) := hY
  obtain ⟨i0, hi0, hy0, hy1, hy2⟩ := info_parts Try.info_many
  clear kR b0 bX gY hY ax fx lx rx bUY HU hkc dx exl hb c0 c1
  go_wp2_with fail
  rw [← HY.out]
  go_loopg [9, 10] xl (fun kx v9 v10 wr => ∃ (i m : Nat), v10 = .int .i64 (i : Int) ∧ i ≤ xl ∧ xl - i ≤ kx ∧ m ≤ 4 * i ∧ wr.ownsRow Y.heap.size 49 4 v9 m (ev (sgl (x.take i))) ∧ Below Y.heap.size Y wr)
  case atStart => exact ⟨0, 0, rfl, by omega, Nat.le_refl _, by omega, by simpa [sgl, ev] using World.ownsRow_nil _ _ _ _, Below.refl _ _⟩
  case round =>
    obtain ⟨i, m, rfl, hix, hkx, hm, own, bel⟩ := hrel
    by_cases hlt : i < xl
    · have hltz : (i : Int) < (xl : Int) := by omega
      have hil : i < x.length := by have := HX.out.2.1; omega
      obtain ⟨Wi, hWi⟩ : ∃ Wi, Wi = wr := ⟨_, rfl⟩
      obtain ⟨e, he⟩ : ∃ e, e = x[i] := ⟨_, rfl⟩
      have HST : Hid (∀ j, ev (sgl (x.take i) ++ List.replicate j ⟨e.f, 1⟩) ++ ev [⟨e.f, 1⟩] = ev (sgl (x.take i) ++ List.replicate (j + 1) ⟨e.f, 1⟩)) := fun j => by rw [← ev_app, List.append_assoc, rep_succ]
      have HTK : Hid (sgl (x.take (i + 1)) = sgl (x.take i) ++ List.replicate (e.n % 5) ⟨e.f, 1⟩) := by rw [he]; exact sgl_take x i hil
      have hr0 : ∀ W5, Below Y.heap.size Y W5 → e.f.Ok W5 ∧ ∃ b off, xa = some ⟨b, off, none⟩ ∧ W5.cell? ⟨b, off + i * 4, none⟩ = some (.int .i64 e.f.t) ∧ W5.cell? ⟨b, off + i * 4 + 1, none⟩ = some e.f.dv ∧ W5.cell? ⟨b, off + i * 4 + 2, none⟩ = some e.f.mv ∧ W5.cell? ⟨b, off + i * 4 + 3, none⟩ = some (.int .u64 e.n) := fun W5 b5 => by
        have hr := HX.out.1.below b5
        obtain ⟨-, -, -, b, off, e1, hcell⟩ := hr.at (by omega)
        rw [he]
        exact ⟨hr.ok x[i] (List.getElem_mem hil), b, off, e1, hcell i hil⟩
      have HR0 : Aside _ := hr0
      obtain ⟨okf, b, off, rfl, t0, t1, t2, t3⟩ := hr0 wr bel
      obtain ⟨aD, nD, cD, hD⟩ := okf.rd.sl
      obtain ⟨aM, nM, cM, hM⟩ := okf.rm.sl
      have HDM : Hid (e.f.dv = .slice aD nD cD ∧ e.f.mv = .slice aM nM cM) := ⟨hD, hM⟩
      obtain ⟨n5, hn5⟩ : ∃ n5 : Nat, n5 = e.n % 5 := ⟨_, rfl⟩
      have hn5' : n5 ≤ 4 := by omega
      have HN5 : Hid (n5 = e.n % 5) := hn5
      have hrem : ((e.n : Int)).tmod 5 = (n5 : Int) := by rw [hn5]; exact (Int.ofNat_tmod _ _).symm
      have HOW : Hid _ := own
      have HBL : Hid _ := bel
      clear okf t0 t1 t2 t3 hD hM hn5 he own bel hr0
      go_wp2_with fail
      go_loopg [9, 11] n5 (fun kx v9 v11 wr => ∃ (j : Nat), v11 = .int .u64 (j : Int) ∧ j ≤ n5 ∧ n5 - j ≤ kx ∧ wr.ownsRow Y.heap.size 49 4 v9 (m + j) (ev (sgl (x.take i) ++ List.replicate j ⟨e.f, 1⟩)) ∧ Below Y.heap.size Y wr)
      case atStart => exact ⟨0, rfl, by omega, Nat.le_refl _, by rw [List.replicate_zero, List.append_nil]; exact HOW.out, HBL.out⟩
      case round =>
        obtain ⟨j, rfl, hjn, hky, own, bel⟩ := hrel
        obtain ⟨okf, b', off', he', t0, t1, t2, t3⟩ := HR0.out wr bel
        cases he'
        rw [HDM.out.1] at t1
        rw [HDM.out.2] at t2
        obtain ⟨a5, p5, c5, rfl⟩ := own_sl own
        by_cases hjl : j < n5
        · have hjlz : (j : Int) < (n5 : Int) := by omega
          have rone := one_rds wr ⟨e.f, 1⟩ _ rfl
          simp only at rone
          rw [HDM.out.1, HDM.out.2] at rone
          have HR : Hid (RdsK 4 (wr.alloc (.cells #[.int .i64 e.f.t, .slice aD nD cD, .slice aM nM cM, .int .u64 1] 49)) (.slice (some ⟨wr.heap.size, 0, none⟩) 1 1) 1 (ev [⟨e.f, 1⟩])) := rone
          have HOO : Aside (∀ u ∈ ev [⟨e.f, 1⟩], u.oneCell' = true) := fc_one (e := ⟨e.f, 1⟩) okf
          have HO5 : Hid ((wr.alloc (.cells #[.int .i64 e.f.t, .slice aD nD cD, .slice aM nM cM, .int .u64 1] 49)).ownsRow Y.heap.size 49 4 (.slice a5 p5 c5) (m + j) (ev (sgl (x.take i) ++ List.replicate j ⟨e.f, 1⟩))) := own.alloc _
          have HB5 : Hid (Below Y.heap.size Y (wr.alloc (.cells #[.int .i64 e.f.t, .slice aD nD cD, .slice aM nM cM, .int .u64 1] 49))) := bel.alloc bel.size _
          have hza : (m + j) + 1 ≤ maxLen := smax _ (by omega)
          have hzb' : (((m + j) + 1) + ((m + j) + 1) / 4 + 192) * 64 ≤ 281474976710656 := sby _ (by omega)
          have hws5 : Y.heap.size ≤ (wr.alloc (.cells #[.int .i64 e.f.t, .slice aD nD cD, .slice aM nM cM, .int .u64 1] 49)).heap.size := HB5.out.size
          have hwu : IntKind.u64.wrap ((j : Int) + 1) = (j : Int) + 1 := u64_in (by omega) (by omega)
          clear rone own bel okf
          go_wp2_with (first
            | (at_builtin; refine wpList_appK rfl _ _ 36 rfl Y.heap.size 49 i0 (.agg #[.int .i64 0, .slice none 0 0, .slice none 0 0, .int .u64 0]) 4 64 Try.underlying36 hi0 hy0 hy1 hy2 rfl (by decide) _ _ _ rfl HO5.out _ _ _ rfl HR.out HOO.out hza hzb' hws5 ?_; intro v7 w7 hown7 hgrow7 hnil7))
          go_roundg (n5 - (j + 1))
          case measure => omega
          case rel => exact ⟨j + 1, by simp, by omega, Nat.le_refl _, by rw [← HST.out]; exact hown7, HB5.out.grown hgrow7 hws5 fun k hk => (World.ownsRow.lt HO5.out k hk).1⟩
        · have hjlz : ¬ (j : Int) < (n5 : Int) := by omega
          have ej : j = n5 := by omega
          subst ej
          have HOE : Hid (wr.ownsRow Y.heap.size 49 4 (.slice a5 p5 c5) (m + j) (ev (sgl (x.take (i + 1))))) := by
            have h := HTK.out
            rw [← HN5.out] at h
            show World.ownsRow _ _ _ _ _ _ _
            rw [h]; exact own
          have HBE : Hid _ := bel
          clear own bel okf
          go_wp2_with fail
          go_roundg (xl - (i + 1))
          case measure => omega
          case rel => exact ⟨i + 1, m + j, by go_num, by omega, Nat.le_refl _, by omega, HOE.out, HBE.out⟩
    · have hltz : ¬ (i : Int) < (xl : Int) := by omega
      have ei : x.take i = x := List.take_of_length_le (by have := HX.out.2.1; omega)
      obtain ⟨sa, sl, sc, rfl⟩ := own_sl own
      have hS : Hid (BgS wr k' cc (X.heap.size + 1) (.slice sa sl sc) (sgl x)) := by
        rw [ei] at own
        have hx := HX.out
        have hl : (sgl x).length * 4 = m * 4 := by have := own.1; rwa [ev_length] at this
        have t1 := sgl_tot x
        have t2 := sgl_len x
        refine ⟨⟨cell_up bel HHB.out.1, cell_up bel HHB.out.2⟩, ⟨?_, fun e he => ?_⟩, sgl_ok hx.2.2.1, by omega, by omega, fun e he => ?_⟩
        · rw [show (sgl x).length = m by omega]; exact RdsK.of_own own
        · obtain ⟨y, hy, rfl⟩ := sgl_mem he
          exact (hx.1.below bel).ok y hy
        · obtain ⟨y, hy, rfl⟩ := sgl_mem he
          exact ⟨(hx.2.2.2.1 y hy).1, (hx.2.2.2.1 y hy).2, (show (1 : Nat) < 18446744073709551616 by decide)⟩
      have hb := hS.out.hb
      have HBw : Hid (Below w.heap.size w wr) := HX.out.2.2.2.2.trans (bel.mono HX.out.2.2.2.2.size)
      clear own bel ei HX HHB
      go_wp2_with fail
      refine wp_region_invF (β := Value × Value × Value × Value × Value × Value × Value × Value × Value) (fun a0 xq => (((((((((a0.put (some 47) (xq.1)).put (some 48) (xq.2.1)).put (some 49) (xq.2.2.1)).put (some 50) (xq.2.2.2.1)).put (some 51) (xq.2.2.2.2.1)).put (some 52) (xq.2.2.2.2.2.1)).put (some 53) (xq.2.2.2.2.2.2.1)).put (some 54) (xq.2.2.2.2.2.2.2.1)).put (some 4) (xq.2.2.2.2.2.2.2.2))) ?fr47 (fun xq d w' => Below wr.heap.size wr w' ∧ (d 0 = true → Evr w' (fun _ => (xq.1) = .agg #[.int .i64 k', .int .i64 (cc : Int)])) ∧ (d 1 = true → Evr w' (fun _ => (xq.2.1) = .slice sa sl sc)) ∧ (d 2 = true → Evr w' (fun X => ∃ r : Pt, (xq.2.2.1) = .agg #[.int .u64 r.n, .int .i64 r.v, r.tv] ∧ r.p0 = ofP k' cc (sgl x) ∧ r.Ok X)) ∧ (d 3 = true → Evr w' (fun _ => (xq.2.2.2.1) = .agg #[.int .i64 k', .int .i64 (cc : Int)])) ∧ (d 4 = true → Evr w' (fun _ => (xq.2.2.2.2.1) = .slice sa sl sc)) ∧ (d 5 = true → Evr w' (fun X => ∃ ra rl rc, (xq.2.2.2.2.2.1) = .slice ra rl rc ∧ RdsM X (.slice ra rl rc) ((Fa.ownL ((sgl x).map frE)).map toE))) ∧ (d 6 = true → Evr w' (fun X => ∃ r : Pt, (xq.2.2.2.2.2.2.1) = .agg #[.int .u64 r.n, .int .i64 r.v, r.tv] ∧ r.p0 = ofP k' cc (sgl x) ∧ r.Ok X)) ∧ (d 7 = true → Evr w' (fun _ => (xq.2.2.2.2.2.2.2.1) = .bool true)) ∧ (d 8 = true → Evr w' (fun _ => (xq.2.2.2.2.2.2.2.2) = .bool true))) ?lay47 mixed (by kernel_rfl) ?h047 ?hs47 ?he47
      case lay47 =>
        intro xq
        simp only [Act.put, List.setIfInBounds_toArray, List.set_cons_zero, List.set_cons_succ]
        rfl
      case h047 => exact ⟨(undef, undef, undef, undef, undef, undef, undef, undef, .bool false), rfl, below_dN (Below.refl _ _) 1, (fun h => by cases h), (fun h => by cases h), (fun h => by cases h), (fun h => by cases h), (fun h => by cases h), (fun h => by cases h), (fun h => by cases h), (fun h => by cases h), (fun h => by cases h)⟩
      case hs47 =>
        refine ⟨?_, ?_, ?_, ?_, ?_, ?_, ?_, ?_, ?_, trivial⟩
        · rintro d ⟨x47, x48, x49, x50, x51, x52, x53, x54, x4⟩ w' hI hd hdp K hK
          dsimp only at hI
          obtain ⟨hB, f0, f1, f2, f3, f4, f5, f6, f7, f8⟩ := hI
          have c0 := cell_up hB hb.1
          have c1 := cell_up hB hb.2
          have HF : Hid _ := (And.intro hd (And.intro hB (And.intro f0 (And.intro f1 (And.intro f2 (And.intro f3 (And.intro f4 (And.intro f5 (And.intro f6 (And.intro f7 f8))))))))))
          clear f0 f1 f2 f3 f4 f5 f6 f7 f8 hB hdp hd
          refine Opn.mk ?_
          dsimp only
          go_simp
          obtain ⟨hd, hB, f0, f1, f2, f3, f4, f5, f6, f7, f8⟩ := HF.out
          exact hK.out (.agg #[.int .i64 k', .int .i64 (cc : Int)], x48, x49, x50, x51, x52, x53, x54, x4) _ ⟨hB.trans (Below.mono (Below.refl w'.heap.size w') hB.size), (fun _ => fun _ _ => rfl), (fun h1 => by first | exact (f1 (upd_ne h1 (by decide))).up (Below.refl w'.heap.size w') | exact fun _ _ => rfl), (fun h2 => by first | exact (f2 (upd_ne h2 (by decide))).up (Below.refl w'.heap.size w') | exact fun _ _ => rfl), (fun h3 => by first | exact (f3 (upd_ne h3 (by decide))).up (Below.refl w'.heap.size w') | exact fun _ _ => rfl), (fun h4 => by first | exact (f4 (upd_ne h4 (by decide))).up (Below.refl w'.heap.size w') | exact fun _ _ => rfl), (fun h5 => by first | exact (f5 (upd_ne h5 (by decide))).up (Below.refl w'.heap.size w') | exact fun _ _ => rfl), (fun h6 => by first | exact (f6 (upd_ne h6 (by decide))).up (Below.refl w'.heap.size w') | exact fun _ _ => rfl), (fun h7 => by first | exact (f7 (upd_ne h7 (by decide))).up (Below.refl w'.heap.size w') | exact fun _ _ => rfl), (fun h8 => by first | exact (f8 (upd_ne h8 (by decide))).up (Below.refl w'.heap.size w') | exact fun _ _ => rfl)⟩
        · rintro d ⟨x47, x48, x49, x50, x51, x52, x53, x54, x4⟩ w' hI hd hdp K hK
          dsimp only at hI
          obtain ⟨hB, f0, f1, f2, f3, f4, f5, f6, f7, f8⟩ := hI
          skip
          have HF : Hid _ := (And.intro hd (And.intro hB (And.intro f0 (And.intro f1 (And.intro f2 (And.intro f3 (And.intro f4 (And.intro f5 (And.intro f6 (And.intro f7 f8))))))))))
          clear f0 f1 f2 f3 f4 f5 f6 f7 f8 hB hdp hd
          refine Opn.mk ?_
          dsimp only
          go_simp
          obtain ⟨hd, hB, f0, f1, f2, f3, f4, f5, f6, f7, f8⟩ := HF.out
          exact hK.out (x47, .slice sa sl sc, x49, x50, x51, x52, x53, x54, x4) _ ⟨hB.trans (Below.mono (Below.refl w'.heap.size w') hB.size), (fun h0 => by first | exact (f0 (upd_ne h0 (by decide))).up (Below.refl w'.heap.size w') | exact fun _ _ => rfl), (fun _ => fun _ _ => rfl), (fun h2 => by first | exact (f2 (upd_ne h2 (by decide))).up (Below.refl w'.heap.size w') | exact fun _ _ => rfl), (fun h3 => by first | exact (f3 (upd_ne h3 (by decide))).up (Below.refl w'.heap.size w') | exact fun _ _ => rfl), (fun h4 => by first | exact (f4 (upd_ne h4 (by decide))).up (Below.refl w'.heap.size w') | exact fun _ _ => rfl), (fun h5 => by first | exact (f5 (upd_ne h5 (by decide))).up (Below.refl w'.heap.size w') | exact fun _ _ => rfl), (fun h6 => by first | exact (f6 (upd_ne h6 (by decide))).up (Below.refl w'.heap.size w') | exact fun _ _ => rfl), (fun h7 => by first | exact (f7 (upd_ne h7 (by decide))).up (Below.refl w'.heap.size w') | exact fun _ _ => rfl), (fun h8 => by first | exact (f8 (upd_ne h8 (by decide))).up (Below.refl w'.heap.size w') | exact fun _ _ => rfl)⟩
        · rintro d ⟨x47, x48, x49, x50, x51, x52, x53, x54, x4⟩ w' hI hd hdp K hK
          dsimp only at hI
          obtain ⟨hB, f0, f1, f2, f3, f4, f5, f6, f7, f8⟩ := hI
          obtain rfl := (f0 (hdp 0 (by decide +kernel))).now
          obtain rfl := (f1 (hdp 1 (by decide +kernel))).now
          have kk := hS.out.kOf w' hB
          try simp only at kk
          unfold Gives at kk
          have HF : Hid _ := (And.intro hd (And.intro hB (And.intro f0 (And.intro f1 (And.intro f2 (And.intro f3 (And.intro f4 (And.intro f5 (And.intro f6 (And.intro f7 f8))))))))))
          clear f0 f1 f2 f3 f4 f5 f6 f7 f8 hB hdp hd
          refine Opn.mk ?_
          dsimp only
          go_simp
          go_wp2_with (first | (go_at_call 16; with_reducible refine kk.mono ?_; rintro e5 w5 ⟨s5, rfl, ok5, new5, hr5, b5⟩))
          obtain ⟨hd, hB, f0, f1, f2, f3, f4, f5, f6, f7, f8⟩ := HF.out
          exact hK.out (.agg #[.int .i64 k', .int .i64 (cc : Int)], .slice sa sl sc, .agg #[.int .u64 s5.n, .int .i64 s5.v, s5.tv], x50, x51, x52, x53, x54, x4) _ ⟨hB.trans (Below.mono (b5) hB.size), (fun h0 => by first | exact (f0 (upd_ne h0 (by decide))).up (b5) | exact fun _ _ => rfl), (fun h1 => by first | exact (f1 (upd_ne h1 (by decide))).up (b5) | exact fun _ _ => rfl), (fun _ => fun X bX => ⟨s5, rfl, hr5, ok5.up bX⟩), (fun h3 => by first | exact (f3 (upd_ne h3 (by decide))).up (b5) | exact fun _ _ => rfl), (fun h4 => by first | exact (f4 (upd_ne h4 (by decide))).up (b5) | exact fun _ _ => rfl), (fun h5 => by first | exact (f5 (upd_ne h5 (by decide))).up (b5) | exact fun _ _ => rfl), (fun h6 => by first | exact (f6 (upd_ne h6 (by decide))).up (b5) | exact fun _ _ => rfl), (fun h7 => by first | exact (f7 (upd_ne h7 (by decide))).up (b5) | exact fun _ _ => rfl), (fun h8 => by first | exact (f8 (upd_ne h8 (by decide))).up (b5) | exact fun _ _ => rfl)⟩
        · rintro d ⟨x47, x48, x49, x50, x51, x52, x53, x54, x4⟩ w' hI hd hdp K hK
          dsimp only at hI
          obtain ⟨hB, f0, f1, f2, f3, f4, f5, f6, f7, f8⟩ := hI
          have c0 := cell_up hB hb.1
          have c1 := cell_up hB hb.2
          have HF : Hid _ := (And.intro hd (And.intro hB (And.intro f0 (And.intro f1 (And.intro f2 (And.intro f3 (And.intro f4 (And.intro f5 (And.intro f6 (And.intro f7 f8))))))))))
          clear f0 f1 f2 f3 f4 f5 f6 f7 f8 hB hdp hd
          refine Opn.mk ?_
          dsimp only
          go_simp
          obtain ⟨hd, hB, f0, f1, f2, f3, f4, f5, f6, f7, f8⟩ := HF.out
          exact hK.out (x47, x48, x49, .agg #[.int .i64 k', .int .i64 (cc : Int)], x51, x52, x53, x54, x4) _ ⟨hB.trans (Below.mono (Below.refl w'.heap.size w') hB.size), (fun h0 => by first | exact (f0 (upd_ne h0 (by decide))).up (Below.refl w'.heap.size w') | exact fun _ _ => rfl), (fun h1 => by first | exact (f1 (upd_ne h1 (by decide))).up (Below.refl w'.heap.size w') | exact fun _ _ => rfl), (fun h2 => by first | exact (f2 (upd_ne h2 (by decide))).up (Below.refl w'.heap.size w') | exact fun _ _ => rfl), (fun _ => fun _ _ => rfl), (fun h4 => by first | exact (f4 (upd_ne h4 (by decide))).up (Below.refl w'.heap.size w') | exact fun _ _ => rfl), (fun h5 => by first | exact (f5 (upd_ne h5 (by decide))).up (Below.refl w'.heap.size w') | exact fun _ _ => rfl), (fun h6 => by first | exact (f6 (upd_ne h6 (by decide))).up (Below.refl w'.heap.size w') | exact fun _ _ => rfl), (fun h7 => by first | exact (f7 (upd_ne h7 (by decide))).up (Below.refl w'.heap.size w') | exact fun _ _ => rfl), (fun h8 => by first | exact (f8 (upd_ne h8 (by decide))).up (Below.refl w'.heap.size w') | exact fun _ _ => rfl)⟩
        · rintro d ⟨x47, x48, x49, x50, x51, x52, x53, x54, x4⟩ w' hI hd hdp K hK
          dsimp only at hI
          obtain ⟨hB, f0, f1, f2, f3, f4, f5, f6, f7, f8⟩ := hI
          skip
          have HF : Hid _ := (And.intro hd (And.intro hB (And.intro f0 (And.intro f1 (And.intro f2 (And.intro f3 (And.intro f4 (And.intro f5 (And.intro f6 (And.intro f7 f8))))))))))
          clear f0 f1 f2 f3 f4 f5 f6 f7 f8 hB hdp hd
          refine Opn.mk ?_
          dsimp only
          go_simp
          obtain ⟨hd, hB, f0, f1, f2, f3, f4, f5, f6, f7, f8⟩ := HF.out
          exact hK.out (x47, x48, x49, x50, .slice sa sl sc, x52, x53, x54, x4) _ ⟨hB.trans (Below.mono (Below.refl w'.heap.size w') hB.size), (fun h0 => by first | exact (f0 (upd_ne h0 (by decide))).up (Below.refl w'.heap.size w') | exact fun _ _ => rfl), (fun h1 => by first | exact (f1 (upd_ne h1 (by decide))).up (Below.refl w'.heap.size w') | exact fun _ _ => rfl), (fun h2 => by first | exact (f2 (upd_ne h2 (by decide))).up (Below.refl w'.heap.size w') | exact fun _ _ => rfl), (fun h3 => by first | exact (f3 (upd_ne h3 (by decide))).up (Below.refl w'.heap.size w') | exact fun _ _ => rfl), (fun _ => fun _ _ => rfl), (fun h5 => by first | exact (f5 (upd_ne h5 (by decide))).up (Below.refl w'.heap.size w') | exact fun _ _ => rfl), (fun h6 => by first | exact (f6 (upd_ne h6 (by decide))).up (Below.refl w'.heap.size w') | exact fun _ _ => rfl), (fun h7 => by first | exact (f7 (upd_ne h7 (by decide))).up (Below.refl w'.heap.size w') | exact fun _ _ => rfl), (fun h8 => by first | exact (f8 (upd_ne h8 (by decide))).up (Below.refl w'.heap.size w') | exact fun _ _ => rfl)⟩
        · rintro d ⟨x47, x48, x49, x50, x51, x52, x53, x54, x4⟩ w' hI hd hdp K hK
          dsimp only at hI
          obtain ⟨hB, f0, f1, f2, f3, f4, f5, f6, f7, f8⟩ := hI
          obtain rfl := (f4 (hdp 4 (by decide +kernel))).now
          have kk := hS.out.kOwn w' hB
          unfold GivesM at kk
          have HF : Hid _ := (And.intro hd (And.intro hB (And.intro f0 (And.intro f1 (And.intro f2 (And.intro f3 (And.intro f4 (And.intro f5 (And.intro f6 (And.intro f7 f8))))))))))
          clear f0 f1 f2 f3 f4 f5 f6 f7 f8 hB hdp hd
          refine Opn.mk ?_
          dsimp only
          go_simp
          go_wp2_with (first | (go_at_call 24; with_reducible refine kk.mono ?_; rintro e5 w5 ⟨v5, rfl, r5, b5⟩; obtain ⟨ra5, rl5, rc5, rfl⟩ := r5.sl))
          obtain ⟨hd, hB, f0, f1, f2, f3, f4, f5, f6, f7, f8⟩ := HF.out
          exact hK.out (x47, x48, x49, x50, .slice sa sl sc, .slice ra5 rl5 rc5, x53, x54, x4) _ ⟨hB.trans (Below.mono (b5) hB.size), (fun h0 => by first | exact (f0 (upd_ne h0 (by decide))).up (b5) | exact fun _ _ => rfl), (fun h1 => by first | exact (f1 (upd_ne h1 (by decide))).up (b5) | exact fun _ _ => rfl), (fun h2 => by first | exact (f2 (upd_ne h2 (by decide))).up (b5) | exact fun _ _ => rfl), (fun h3 => by first | exact (f3 (upd_ne h3 (by decide))).up (b5) | exact fun _ _ => rfl), (fun h4 => by first | exact (f4 (upd_ne h4 (by decide))).up (b5) | exact fun _ _ => rfl), (fun _ => fun X bX => ⟨_, _, _, rfl, r5.below bX⟩), (fun h6 => by first | exact (f6 (upd_ne h6 (by decide))).up (b5) | exact fun _ _ => rfl), (fun h7 => by first | exact (f7 (upd_ne h7 (by decide))).up (b5) | exact fun _ _ => rfl), (fun h8 => by first | exact (f8 (upd_ne h8 (by decide))).up (b5) | exact fun _ _ => rfl)⟩
        · rintro d ⟨x47, x48, x49, x50, x51, x52, x53, x54, x4⟩ w' hI hd hdp K hK
          dsimp only at hI
          obtain ⟨hB, f0, f1, f2, f3, f4, f5, f6, f7, f8⟩ := hI
          obtain rfl := (f3 (hdp 3 (by decide +kernel))).now
          obtain ⟨ra, rl, rc, e52, rr⟩ := (f5 (hdp 5 (by decide +kernel))).now
          subst e52
          have kk := hS.out.kOf2 w' _ rr
          unfold Gives at kk
          have HF : Hid _ := (And.intro hd (And.intro hB (And.intro f0 (And.intro f1 (And.intro f2 (And.intro f3 (And.intro f4 (And.intro f5 (And.intro f6 (And.intro f7 f8))))))))))
          clear f0 f1 f2 f3 f4 f5 f6 f7 f8 hB hdp hd
          refine Opn.mk ?_
          dsimp only
          go_simp
          go_wp2_with (first | (go_at_call 16; with_reducible refine kk.mono ?_; rintro e5 w5 ⟨s5, rfl, ok5, new5, hr5, b5⟩))
          obtain ⟨hd, hB, f0, f1, f2, f3, f4, f5, f6, f7, f8⟩ := HF.out
          exact hK.out (x47, x48, x49, .agg #[.int .i64 k', .int .i64 (cc : Int)], x51, .slice ra rl rc, .agg #[.int .u64 s5.n, .int .i64 s5.v, s5.tv], x54, x4) _ ⟨hB.trans (Below.mono (b5) hB.size), (fun h0 => by first | exact (f0 (upd_ne h0 (by decide))).up (b5) | exact fun _ _ => rfl), (fun h1 => by first | exact (f1 (upd_ne h1 (by decide))).up (b5) | exact fun _ _ => rfl), (fun h2 => by first | exact (f2 (upd_ne h2 (by decide))).up (b5) | exact fun _ _ => rfl), (fun h3 => by first | exact (f3 (upd_ne h3 (by decide))).up (b5) | exact fun _ _ => rfl), (fun h4 => by first | exact (f4 (upd_ne h4 (by decide))).up (b5) | exact fun _ _ => rfl), (fun h5 => by first | exact (f5 (upd_ne h5 (by decide))).up (b5) | exact fun _ _ => rfl), (fun _ => fun X bX => ⟨s5, rfl, hr5, ok5.up bX⟩), (fun h7 => by first | exact (f7 (upd_ne h7 (by decide))).up (b5) | exact fun _ _ => rfl), (fun h8 => by first | exact (f8 (upd_ne h8 (by decide))).up (b5) | exact fun _ _ => rfl)⟩
        · rintro d ⟨x47, x48, x49, x50, x51, x52, x53, x54, x4⟩ w' hI hd hdp K hK
          dsimp only at hI
          obtain ⟨hB, f0, f1, f2, f3, f4, f5, f6, f7, f8⟩ := hI
          obtain ⟨s1, es1, hs1, os1⟩ := (f2 (hdp 2 (by decide +kernel))).now
          subst es1
          obtain ⟨s2, es2, hs2, os2⟩ := (f6 (hdp 6 (by decide +kernel))).now
          subst es2
          have kk := refsame_any w' s1 s2 os1 os2 (hs1.trans hs2.symm)
          try simp only at kk
          have HF : Hid _ := (And.intro hd (And.intro hB (And.intro f0 (And.intro f1 (And.intro f2 (And.intro f3 (And.intro f4 (And.intro f5 (And.intro f6 (And.intro f7 f8))))))))))
          clear f0 f1 f2 f3 f4 f5 f6 f7 f8 hB hdp hd
          refine Opn.mk ?_
          dsimp only
          go_simp
          go_wp2_with (first | (go_at_call 18; with_reducible refine kk.mono ?_; rintro e5 w5 ⟨rfl, g5⟩))
          obtain ⟨hd, hB, f0, f1, f2, f3, f4, f5, f6, f7, f8⟩ := HF.out
          exact hK.out (x47, x48, .agg #[.int .u64 s1.n, .int .i64 s1.v, s1.tv], x50, x51, x52, .agg #[.int .u64 s2.n, .int .i64 s2.v, s2.tv], .bool true, x4) _ ⟨hB.trans (Below.mono (Grows.below g5) hB.size), (fun h0 => by first | exact (f0 (upd_ne h0 (by decide))).up (Grows.below g5) | exact fun _ _ => rfl), (fun h1 => by first | exact (f1 (upd_ne h1 (by decide))).up (Grows.below g5) | exact fun _ _ => rfl), (fun h2 => by first | exact (f2 (upd_ne h2 (by decide))).up (Grows.below g5) | exact fun _ _ => rfl), (fun h3 => by first | exact (f3 (upd_ne h3 (by decide))).up (Grows.below g5) | exact fun _ _ => rfl), (fun h4 => by first | exact (f4 (upd_ne h4 (by decide))).up (Grows.below g5) | exact fun _ _ => rfl), (fun h5 => by first | exact (f5 (upd_ne h5 (by decide))).up (Grows.below g5) | exact fun _ _ => rfl), (fun h6 => by first | exact (f6 (upd_ne h6 (by decide))).up (Grows.below g5) | exact fun _ _ => rfl), (fun _ => fun _ _ => rfl), (fun h8 => by first | exact (f8 (upd_ne h8 (by decide))).up (Grows.below g5) | exact fun _ _ => rfl)⟩
        · rintro d ⟨x47, x48, x49, x50, x51, x52, x53, x54, x4⟩ w' hI hd hdp K hK
          dsimp only at hI
          obtain ⟨hB, f0, f1, f2, f3, f4, f5, f6, f7, f8⟩ := hI
          obtain rfl := (f7 (hdp 7 (by decide +kernel))).now
          have HF : Hid _ := (And.intro hd (And.intro hB (And.intro f0 (And.intro f1 (And.intro f2 (And.intro f3 (And.intro f4 (And.intro f5 (And.intro f6 (And.intro f7 f8))))))))))
          clear f0 f1 f2 f3 f4 f5 f6 f7 f8 hB hdp hd
          refine Opn.mk ?_
          dsimp only
          go_simp
          obtain ⟨hd, hB, f0, f1, f2, f3, f4, f5, f6, f7, f8⟩ := HF.out
          exact hK.out (x47, x48, x49, x50, x51, x52, x53, .bool true, .bool true) _ ⟨hB.trans (Below.mono (Below.refl w'.heap.size w') hB.size), (fun h0 => by first | exact (f0 (upd_ne h0 (by decide))).up (Below.refl w'.heap.size w') | exact fun _ _ => rfl), (fun h1 => by first | exact (f1 (upd_ne h1 (by decide))).up (Below.refl w'.heap.size w') | exact fun _ _ => rfl), (fun h2 => by first | exact (f2 (upd_ne h2 (by decide))).up (Below.refl w'.heap.size w') | exact fun _ _ => rfl), (fun h3 => by first | exact (f3 (upd_ne h3 (by decide))).up (Below.refl w'.heap.size w') | exact fun _ _ => rfl), (fun h4 => by first | exact (f4 (upd_ne h4 (by decide))).up (Below.refl w'.heap.size w') | exact fun _ _ => rfl), (fun h5 => by first | exact (f5 (upd_ne h5 (by decide))).up (Below.refl w'.heap.size w') | exact fun _ _ => rfl), (fun h6 => by first | exact (f6 (upd_ne h6 (by decide))).up (Below.refl w'.heap.size w') | exact fun _ _ => rfl), (fun h7 => by first | exact (f7 (upd_ne h7 (by decide))).up (Below.refl w'.heap.size w') | exact fun _ _ => rfl), (fun _ => fun _ _ => rfl)⟩
      case he47 =>
        rintro d ⟨x47, x48, x49, x50, x51, x52, x53, x54, x4⟩ w' hall hI
        dsimp only at hI
        obtain ⟨hB, f0, f1, f2, f3, f4, f5, f6, f7, f8⟩ := hI
        obtain rfl := (f8 (hall 8 (by decide))).now
        have HB' : Hid _ := hB
        clear hall hB f0 f1 f2 f3 f4 f5 f6 f7 f8
        dsimp only
        go_wp2_with fail
        go_ret
        exact ⟨rfl, HBw.out.trans (HB'.out.mono HBw.out.size)⟩
end Go.Proofs.Ytkoihniggoelnaa
