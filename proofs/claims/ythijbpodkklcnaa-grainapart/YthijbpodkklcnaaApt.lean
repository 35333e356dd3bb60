/- The walk of GrainApart. -/
import Derived.Test.YthijbpodkklcnaaUns
import Derived.Deep.RegionHeldLaw
namespace Go.Proofs.Ythijbpodkklcnaa
open Go.RowKit Go.Sort

theorem bel2_alloc {B : Nat} {a X : World} (hB : B ≤ a.heap.size) (h : Below B a X) (o : Obj) : Below B a (X.alloc o) := h.alloc (Nat.le_trans hB h.size) o
theorem hol_meet' (a b : Sp) (t : Int) : hol (meet a b) t = (hol a t && hol b t) := by
  obtain ⟨a1, a2⟩ := a; obtain ⟨b1, b2⟩ := b
  rw [Bool.eq_iff_iff, Bool.and_eq_true, hol_iff, hol_iff, hol_iff]
  by_cases h1 : min a2 b2 ≤ max a1 b1
  · have e1 : meet (a1, a2) (b1, b2) = (0, 0) := if_pos h1
    rw [e1]; simp only; omega
  · have e1 : meet (a1, a2) (b1, b2) = (max a1 b1, min a2 b2) := if_neg h1
    rw [e1]; simp only; omega
theorem any_held (s : Sp) (l : List Sp) (t : Int) : any (l.map (meet s)) t = (hol s t && any l t) := by
  induction l with
  | nil => simp [any]
  | cons a l ih =>
    rw [List.map_cons, any_cons, any_cons, ih, hol_meet']
    cases hol s t <;> simp
/-- The two rows together are the span. -/
theorem both_is {s : Sp} {rk rm ru : List Sp} {l : List Sp} (hm : ∀ t, any rm t = (hol s t && !any l t)) (hu : ∀ t, any ru t = (hol s t && any l t)) (hN : Norm rk) (hA : ∀ t, any rk t = any (rm ++ ru) t) :
    rk = if emp s = true then [] else [s] := by
  have key : ∀ t, any rk t = hol s t := fun t => by
    rw [hA, any_app, hm, hu]
    cases hol s t <;> cases any l t <;> rfl
  by_cases c : emp s = true
  · rw [if_pos c]
    refine norm_unique _ _ hN Norm.nil fun t => ?_
    rw [key, any_nil, Bool.eq_false_iff]
    intro h
    have := (hol_iff _ _).1 h
    have : s.2 ≤ s.1 := by simpa [emp] using c
    omega
  · rw [if_neg c]
    have hs : s.1 < s.2 := by
      have : ¬ s.2 ≤ s.1 := fun h => c (by simpa [emp] using h)
      omega
    refine norm_unique _ _ hN (Norm.push Norm.nil hs (fun _ h => by cases h)) fun t => ?_
    rw [key]; simp [any]
theorem room_all {a b n : Nat} (hn : n ≤ 200) (ha : a ≤ n + 1) (hb : b ≤ n) : 0 + a ≤ maxLen ∧ ((0 + a) + (0 + a) / 4 + 192) * 16 ≤ 281474976710656 ∧ a + b ≤ maxLen ∧ ((a + b) + (a + b) / 4 + 192) * 16 ≤ 281474976710656 ∧ (a + b + 2) * 16 ≤ 160842843834660 := by
  unfold maxLen; omega
theorem room_one {k n : Nat} (hn : n ≤ 200) (hk : k ≤ n) : k + 1 ≤ maxLen ∧ ((k + 1) + (k + 1) / 4 + 192) * 16 ≤ 281474976710656 := by
  unfold maxLen; omega

set_option maxHeartbeats 8000000 in
set_option maxRecDepth 100000 in
theorem apart_walk (w : World) (s : Sp) (_hs : In64 s.1 ∧ In64 s.2) (v : Value) (l : List Sp) (h : RdP w v l) (_hl : ∀ s ∈ l, In64 s.1 ∧ In64 s.2) (_hb : l.length * 16 ≤ 140737488351232) (t : Int) (_ht : In64 t) :
    Calls Try.prog 8 #[.agg #[.int .i64 s.1, .int .i64 s.2], v, .int .i64 t] w fun e w' => e = .returned (.bool true) ∧ Below w.heap.size w w' := by
  clear _hs _hl _hb _ht
  obtain ⟨i0, hi, hz0, hz1, hz2⟩ := info_parts Try.info_span
  have HOne : Aside (∀ l : List Sp, ∀ v ∈ pv l, v.oneCell' = true) := pv_one
  obtain ⟨F, T⟩ := s
  simp only
  obtain ⟨W, hW⟩ : ∃ W, W = w.alloc (.cells #[.int .i64 F, .int .i64 T] 23) := ⟨_, rfl⟩
  have kA := awake_any W
  have bW : Below w.heap.size w W := by rw [hW]; exact (Grows.alloc _ _).below
  have hsW : W.heap.size = w.heap.size + 1 := by rw [hW]; simp
  have c0 : W.cell? ⟨w.heap.size, 0, none⟩ = some (.int .i64 F) ∧ W.cell? ⟨w.heap.size, 1, none⟩ = some (.int .i64 T) := by
    rw [hW]; exact At.new w (F, T) _ rfl
  obtain ⟨al, nl, cl, rfl⟩ := h.sl
  obtain ⟨hn, hnc, hcm, -⟩ := h.at
  unfold maxLen at hcm
  have HN : Hid (nl = l.length) := hn
  have HX : Hid _ := And.intro bW (And.intro c0 hsW)
  have HH : Hid _ := h
  have mixed : Try.prog.follows .mixedOrders = true := by kernel_rfl
  rw [hW] at kA
  have HW : Hid _ := hW
  clear hW bW c0 hsW h hn
  go_enter Try.func8, Try.ntmps8
  go_wp2_with fail
  refine kA.mono ?_
  rintro e w1 ⟨rfl, bb1⟩
  rw [← HW.out] at bb1
  obtain ⟨bW, c0, hsW⟩ := HX.out
  have b1 : Below w.heap.size w w1 := bW.trans (bb1.mono (by omega))
  have HB1 : Hid (Below w.heap.size w w1) := b1
  have d0 : w1.cell? ⟨w.heap.size, 0, none⟩ = some (.int .i64 F) := by rw [bb1.cell (by rw [hsW]; simp)]; exact c0.1
  have d1 : w1.cell? ⟨w.heap.size, 1, none⟩ = some (.int .i64 T) := by rw [bb1.cell (by rw [hsW]; simp)]; exact c0.2
  have r1 : RdP w1 (.slice al nl cl) l := HH.out.below b1
  by_cases h200 : nl ≤ 200
  · have h2z : ¬ ((nl : Int) > 200) := by omega
    have hb1 : (l.length + 2) * 16 ≤ 160842843834660 := by have := HN.out; omega
    have kM := minus_any w1 (F, T) _ l r1 hb1
    simp only at kM
    have HRl : Hid _ := r1
    clear HX bW c0 hsW bb1 HW b1 r1 kA hb1
    go_wp2_with fail
    refine kM.mono ?_
    rintro e w2 ⟨v2, rfl, rm, o2, hNm, hAm, hLm, b2⟩
    obtain ⟨am, nm, cm, hvm⟩ := own_sl o2
    subst hvm
    have HRm : Hid (RdP w2 (.slice am nm cm) rm) := o2.rd
    have HAm : Hid (∀ t, any rm t = (hol (F, T) t && !any l t)) := hAm
    have HLm : Hid (rm.length ≤ l.length + 1) := hLm
    have HB2 : Hid (Below w.heap.size w w2) := HB1.out.trans (b2.mono HB1.out.size)
    have s0 : w2.cell? ⟨w.heap.size, 0, none⟩ = some (.int .i64 F) := by rw [b2.cell (World.block_lt_of_cell? _ _ d0)]; exact d0
    have s1 : w2.cell? ⟨w.heap.size, 1, none⟩ = some (.int .i64 T) := by rw [b2.cell (World.block_lt_of_cell? _ _ d1)]; exact d1
    have HRl2 : Hid (RdP w2 (.slice al nl cl) l) := HRl.out.below b2
    clear kM o2 hNm hAm hLm b2 d0 d1 HRl
    go_wp2_with fail
    go_loopg [9, 10] nl (fun kx v9 vi wr => ∃ (i : Nat) (held : List Sp), vi = .int .i64 i ∧ i ≤ nl ∧ nl - i ≤ kx ∧ Hid (OwP wr w2.heap.size v9 held) ∧ Hid (held = (l.take i).map (meet (F, T))) ∧ Hid (Below w2.heap.size w2 wr))
    case atStart => exact ⟨0, [], rfl, by omega, Nat.le_refl _, OwP.nil _ _, rfl, Below.refl _ _⟩
    case round =>
      obtain ⟨i, held, rfl, hin, hkx, HO, HX, HBr⟩ := hrel
      obtain ⟨a9, n9, c9, hv⟩ := own_sl HO.out
      subst hv
      have r0 : wr.cell? ⟨w.heap.size, 0, none⟩ = some (.int .i64 F) := by rw [HBr.out.cell (World.block_lt_of_cell? _ _ s0)]; exact s0
      have r1 : wr.cell? ⟨w.heap.size, 1, none⟩ = some (.int .i64 T) := by rw [HBr.out.cell (World.block_lt_of_cell? _ _ s1)]; exact s1
      by_cases hlt : i < nl
      · have hltz : (i : Int) < (nl : Int) := by omega
        have hil : i < l.length := by have := HN.out; omega
        have hr := HRl2.out.at
        obtain ⟨-, -, -, hk⟩ := hr
        obtain ⟨b, off, rfl, hcl⟩ := hk (by omega)
        obtain ⟨q0, q1⟩ := hcl i hil
        have htk : l.take (i + 1) = l.take i ++ [l[i]] := List.take_succ_eq_append_getElem hil
        have HX2 : Hid ((l.take (i + 1)).map (meet (F, T)) = held ++ [meet (F, T) l[i]]) := by show _ = _; rw [htk, List.map_append, ← HX.out]; rfl
        have hhl : held.length = i := by rw [HX.out]; simp; omega
        generalize l[i] = x at *
        obtain ⟨A, B⟩ := x
        simp only at q0 q1
        have kx := fun W => meet_any W (F, T) (A, B)
        simp only at kx
        have hbw : b < w2.heap.size := World.block_lt_of_cell? _ _ q0
        have hsw : w.heap.size < w2.heap.size := World.block_lt_of_cell? _ _ s0
        have keepS : ∀ w', Below w2.heap.size wr w' → (fun w' => Below w2.heap.size wr w' ∧ w'.cell? ⟨w.heap.size, 0, none⟩ = some (.int .i64 F) ∧ w'.cell? ⟨w.heap.size, 1, none⟩ = some (.int .i64 T) ∧ w'.cell? ⟨b, off + i * 2, none⟩ = some (.int .i64 A) ∧ w'.cell? ⟨b, off + i * 2 + 1, none⟩ = some (.int .i64 B)) w' := fun w' bb => ⟨bb, by rw [bb.cell hsw]; exact r0, by rw [bb.cell hsw]; exact r1, by rw [bb.cell hbw, HBr.out.cell hbw]; exact q0, by rw [bb.cell hbw, HBr.out.cell hbw]; exact q1⟩
        have hszr : w2.heap.size ≤ wr.heap.size := HBr.out.size
        have hrm := room_one h200 (show i ≤ nl by omega)
        rw [← hhl] at hrm
        have HZ1 : Hid _ := hrm
        generalize meet (F, T) (A, B) = M at *
        obtain ⟨M1, M2⟩ := M
        simp only at kx
        have hbN : i < nl := hlt
        clear hcl htk hk hhl hrm
        go_wp2_with fail
        go_region_held_law (fun w' => Below w2.heap.size wr w' ∧ w'.cell? ⟨w.heap.size, 0, none⟩ = some (.int .i64 F) ∧ w'.cell? ⟨w.heap.size, 1, none⟩ = some (.int .i64 T) ∧ w'.cell? ⟨b, off + i * 2, none⟩ = some (.int .i64 A) ∧ w'.cell? ⟨b, off + i * 2 + 1, none⟩ = some (.int .i64 B))
          (exact keepS _ (by repeat' (first | with_reducible assumption | with_reducible exact Below.refl _ _ | with_reducible refine Below.drew ?_ | with_reducible refine bel2_alloc hszr ?_ _)))
          (first
            | (refine step_appK rfl (.tmp 31) (.tmp 38) 28 rfl w2.heap.size 23 i0 (.agg #[.int .i64 0, .int .i64 0]) 2 16 Try.underlying28 hi hz0 hz1 hz2 rfl (by decide) (.slice a9 n9 c9) held.length (pv held) rfl (own_below (own_below HO.out G4.below) ((Below.refl _ _).alloc (Nat.le_refl _) _)) _ 1 1 (pv [(M1, M2)]) rfl (one_rds w4 (M1, M2) _ rfl) (HOne.out _) HZ1.out.1 HZ1.out.2 (Nat.le_trans hszr (Nat.le_trans G4.below.size (((Below.refl _ _).alloc (Nat.le_refl _) _).size))) ?_; intro v9 w9 hown9 hgrow9; have B9 : Below w2.heap.size wr w9 := Below.grown (bel2_alloc hszr (G4.below.mono hszr) _) hgrow9 (Nat.le_trans hszr (Nat.le_trans G4.below.size (((Below.refl _ _).alloc (Nat.le_refl _) _).size))) (fun j hj => (World.ownsRow.lt HO.out j hj).1))
            | (go_at_call 11; (with_reducible refine (kx _).mono ?_); rintro e4 w4 ⟨rfl, g4⟩; have G4 : Grows wr w4 := Grows.trans (Grows.drewN wr 1) g4; have B4 : Below w2.heap.size wr w4 := G4.below.mono hszr))
        all_goals
          have HO9 : Hid (OwP w9 w2.heap.size v9 (held ++ [(M1, M2)]) ∧ Below w2.heap.size wr w9) := ⟨by unfold OwP; rw [pv_app, List.length_append]; exact hown9, B9⟩
          obtain ⟨a10, n10, c10, hv10⟩ := own_sl hown9
          subst hv10
          clear hown9 hgrow9 B9
          go_wp2_with fail
          go_roundg (nl - (i + 1))
          case measure => omega
          case rel => exact ⟨i + 1, held ++ [(M1, M2)], by go_num, by omega, Nat.le_refl _, HO9.out.1, HX2.out.symm, HBr.out.trans HO9.out.2⟩
      · have hltz : ¬ (i : Int) < (nl : Int) := by omega
        have hx := HX.out
        rw [List.take_of_length_le (by have := HN.out; omega)] at hx
        have hhl : held.length = l.length := by rw [hx]; simp
        have kU := union_any wr (.slice a9 n9 c9) held HO.out.rd (by have := HN.out; omega)
        have hah : ∀ t, any held t = (hol (F, T) t && any l t) := fun t => by rw [hx]; exact any_held _ _ _
        have HAh : Hid _ := And.intro hah hhl
        have HRm3 : Hid (RdP wr (.slice am nm cm) rm) := HRm.out.below HBr.out
        have HB3 : Hid (Below w.heap.size w wr) := HB2.out.trans (HBr.out.mono HB2.out.size)
        clear hx hhl hah HX HRm HRl2 s0 s1 HB2
        go_wp2_with fail
        refine kU.mono ?_
        rintro e w4 ⟨v4, rfl, ru, o4, hNu, hAu, hLu, b4⟩
        obtain ⟨au, nu, cu, hvu⟩ := own_sl o4
        subst hvu
        have HAu : Hid (∀ t, any ru t = (hol (F, T) t && any l t)) := fun t => by rw [hAu, HAh.out.1]
        have HFin : Hid (∀ rk : List Sp, Norm rk → (∀ t, any rk t = any (rm ++ ru) t) → rk = if emp (F, T) = true then [] else [(F, T)]) := fun rk h1 h2 => both_is HAm.out HAu.out h1 h2
        have HZ : Hid _ := room_all (a := rm.length) (b := ru.length) (n := l.length) (by have := HN.out; omega) HLm.out (by have := HAh.out.2; omega)
        have kAm := refany_any w4 (.slice am nm cm) rm t (HRm3.out.below b4)
        have HRu4 : Hid (RdP w4 (.slice au nu cu) ru) := o4.rd
        have HRm4 : Hid (RdP w4 (.slice am nm cm) rm) := HRm3.out.below b4
        have HB4 : Hid (Below w.heap.size w w4) := HB3.out.trans (b4.mono HB3.out.size)
        have q0 : w4.cell? ⟨w.heap.size, 0, none⟩ = some (.int .i64 F) := by rw [b4.cell (World.block_lt_of_cell? _ _ r0)]; exact r0
        have q1 : w4.cell? ⟨w.heap.size, 1, none⟩ = some (.int .i64 T) := by rw [b4.cell (World.block_lt_of_cell? _ _ r1)]; exact r1
        have hes := HAm.out t
        have heu := HAu.out t
        rw [hes] at kAm
        clear kU o4 hNu hAu hLu b4 r0 r1 HAh HRm3 HB3 HLm
        go_wp2_with fail
        refine kAm.mono ?_
        rintro e w5 ⟨rfl, g5⟩
        have kAu := refany_any w5 (.slice au nu cu) ru t (HRu4.out.below g5.below)
        rw [heu] at kAu
        have HRu5 : Hid (RdP w5 (.slice au nu cu) ru) := HRu4.out.below g5.below
        have HRm5 : Hid (RdP w5 (.slice am nm cm) rm) := HRm4.out.below g5.below
        have HB5 : Hid (Below w.heap.size w w5) := HB4.out.trans (g5.below.mono HB4.out.size)
        replace q0 := g5.cell q0
        replace q1 := g5.cell q1
        clear kAm g5 hes heu HRu4 HRm4 HB4
        go_wp2_with fail
        refine kAu.mono ?_
        rintro e w6 ⟨rfl, g6⟩
        have HRu6 : Hid (RdP w6 (.slice au nu cu) ru) := HRu5.out.below g6.below
        have HRm6 : Hid (RdP w6 (.slice am nm cm) rm) := HRm5.out.below g6.below
        have HB6 : Hid (Below w.heap.size w w6) := HB5.out.trans (g6.below.mono HB5.out.size)
        have t0 := g6.cell q0
        have t1 := g6.cell q1
        have kHo := fun W => holds_any W (F, T) t
        simp only at kHo
        clear kAu g6 q0 q1 HRu5 HRm5 HB5 HAm HAu
        generalize hol (F, T) t = ys at *
        generalize any l t = yl at *
        cases ys with
        | false =>
          go_wp2_with fail
          refine (kHo _).mono ?_
          rintro e w7 ⟨rfl, g7⟩
          have HO0 : Hid (w7.ownsRow w7.heap.size 23 2 (.slice none 0 0) 0 []) := World.ownsRow_nil _ _ _ _
          have HRm7 : Hid (RdP w7 (.slice am nm cm) rm) := HRm6.out.below g7.below
          have HRu7 : Hid (RdP w7 (.slice au nu cu) ru) := HRu6.out.below g7.below
          have x0 := g7.cell t0
          have x1 := g7.cell t1
          have HB7 : Hid (Below w.heap.size w w7) := HB6.out.trans (g7.below.mono HB6.out.size)
          have hs7 : w7.heap.size ≤ w7.heap.size := Nat.le_refl _
          clear g7 kHo t0 t1 HRm6 HRu6
          go_upto_region 19 with (first
            | (at_builtin; refine wpList_appK rfl _ _ 28 rfl w7.heap.size 23 i0 (.agg #[.int .i64 0, .int .i64 0]) 2 16 Try.underlying28 hi hz0 hz1 hz2 rfl (by decide) _ _ _ rfl HO0.out _ _ _ rfl HRm7.out (HOne.out _) HZ.out.1 HZ.out.2.1 hs7 ?_; intro v9 w9 hown9 hgrow9 hnil9; clear hnil9))
          rw [List.nil_append, Nat.zero_add] at hown9
          have bb9 : Below w7.heap.size w7 w9 := (Below.refl _ _).grown hgrow9 hs7 (fun j hj => (World.ownsRow.lt HO0.out j hj).1)
          obtain ⟨a9, n9, c9, hv9⟩ := own_sl hown9
          subst hv9
          have HO9 : Hid _ := hown9
          have HB9 : Hid (Below w7.heap.size w7 w9) := bb9
          have HRu9 : Hid (RdP w9 (.slice au nu cu) ru) := HRu7.out.below bb9
          have hs9 : w7.heap.size ≤ w9.heap.size := bb9.size
          clear hown9 hgrow9 bb9 HO0
          go_upto_region 20 with (first
            | (at_builtin; refine wpList_appK rfl _ _ 28 rfl w7.heap.size 23 i0 (.agg #[.int .i64 0, .int .i64 0]) 2 16 Try.underlying28 hi hz0 hz1 hz2 rfl (by decide) _ _ _ rfl HO9.out _ _ _ rfl HRu9.out (HOne.out _) HZ.out.2.2.1 HZ.out.2.2.2.1 hs9 ?_; intro v10 w10 hown10 hgrow10 hnil10; clear hnil10))
          have bb10 : Below w7.heap.size w7 w10 := HB9.out.grown hgrow10 hs9 (fun j hj => (World.ownsRow.lt HO9.out j hj).1)
          rw [← pv_app] at hown10
          have rall : RdP w10 v10 (rm ++ ru) := by have := RdsK.of_own hown10; unfold RdP; rw [List.length_append]; exact this
          have kU2 := union_any w10 v10 (rm ++ ru) rall (by rw [List.length_append]; exact HZ.out.2.2.2.2)
          obtain ⟨a10, n10, c10, hv10⟩ := own_sl hown10
          subst hv10
          have y0 : w10.cell? ⟨w.heap.size, 0, none⟩ = some (.int .i64 F) := by rw [bb10.cell (World.block_lt_of_cell? _ _ x0)]; exact x0
          have y1 : w10.cell? ⟨w.heap.size, 1, none⟩ = some (.int .i64 T) := by rw [bb10.cell (World.block_lt_of_cell? _ _ x1)]; exact x1
          have HB10 : Hid (Below w.heap.size w w10) := HB7.out.trans (bb10.mono HB7.out.size)
          clear hown10 hgrow10 bb10 rall HO9 HB9 HRu9 HRu7 HRm7 x0 x1
          go_wp2_with fail
          refine kU2.mono ?_
          rintro e w8 ⟨v8', rfl, rk, o8, hN8, hA8, -, b8⟩
          have hk := HFin.out rk hN8 hA8
          obtain ⟨ak, nk, ck, hvk⟩ := own_sl o8
          subst hvk
          have z0 : w8.cell? ⟨w.heap.size, 0, none⟩ = some (.int .i64 F) := by rw [b8.cell (World.block_lt_of_cell? _ _ y0)]; exact y0
          have z1 : w8.cell? ⟨w.heap.size, 1, none⟩ = some (.int .i64 T) := by rw [b8.cell (World.block_lt_of_cell? _ _ y1)]; exact y1
          have HB8 : Hid (Below w.heap.size w w8) := HB10.out.trans (b8.mono HB10.out.size)
          have rk8 := o8.rd
          have hnk := rk8.at.1
          have z0' := fun nq os => cell_gr z0 nq os
          have z1' := fun nq os => cell_gr z1 nq os
          clear kU2 o8 hN8 hA8 b8 y0 y1 z0 z1 HZ HFin HB10
          by_cases hem : emp (F, T) = true
          · rw [hem, if_pos rfl] at hk
            subst hk
            have hnk0 : nk = 0 := hnk
            subst hnk0
            have kE : ∀ nq os, Calls Try.prog 13 #[.agg #[.int .i64 F, .int .i64 T]] (grow (w8.drewN nq) os) fun e w' => e = .returned (.bool true) ∧ ∃ q os', w' = grow ((grow (w8.drewN nq) os).drewN q) os' := fun nq os => by have := empty_any (grow (w8.drewN nq) os) (F, T); rw [hem] at this; exact this
            clear hnk rk8 hem
            go_wp2_with fail
            refine wp_region_quiet_grown (by assumption) (by kernel_rfl) ?_
            repeat (go_big_quiet_step (first | (go_at_call 13; with_reducible refine Calls.grown_of (kE _ _))))
            refine wpQuiet_nil ?_
            intro Y hw'
            obtain ⟨⟨nq, osq⟩, hw''⟩ := hw'
            have HBY : Hid (Below w.heap.size w Y) := HB8.out.trans ((Grows.below ⟨nq, osq, hw''⟩).mono HB8.out.size)
            clear hw'' kE
            go_wp2_with fail
            go_ret
            exact ⟨rfl, HBY.out⟩
          · have hem' : emp (F, T) = false := by simpa using hem
            rw [hem', if_neg (by simp)] at hk
            subst hk
            have hnk0 : nk = 1 := hnk
            subst hnk0
            obtain ⟨bk, offk, rfl, hclk⟩ := rk8.cell (by simp)
            obtain ⟨m0, m1⟩ := hclk 0 (F, T) rfl
            simp only [Nat.zero_mul, Nat.add_zero] at m0 m1
            have m0' := fun nq os => cell_gr m0 nq os
            have m1' := fun nq os => cell_gr m1 nq os
            have kE : ∀ nq os, Calls Try.prog 13 #[.agg #[.int .i64 F, .int .i64 T]] (grow (w8.drewN nq) os) fun e w' => e = .returned (.bool false) ∧ ∃ q os', w' = grow ((grow (w8.drewN nq) os).drewN q) os' := fun nq os => by have := empty_any (grow (w8.drewN nq) os) (F, T); rw [hem'] at this; exact this
            clear hnk rk8 hem hem' hclk m0 m1
            go_wp2_with fail
            refine wp_region_quiet_grown (by assumption) (by kernel_rfl) ?_
            repeat (go_big_quiet_step (first | (go_at_call 13; with_reducible refine Calls.grown_of (kE _ _))))
            refine wpQuiet_nil ?_
            intro Y hw'
            obtain ⟨⟨nq, osq⟩, hw''⟩ := hw'
            have HBY : Hid (Below w.heap.size w Y) := HB8.out.trans ((Grows.below ⟨nq, osq, hw''⟩).mono HB8.out.size)
            clear hw'' kE
            go_wp2_with fail
            go_ret
            exact ⟨rfl, HBY.out⟩
        | true =>
          cases yl with
          | false =>
            go_wp2_with fail
            refine (kHo _).mono ?_
            rintro e w7 ⟨rfl, g7⟩
            have HO0 : Hid (w7.ownsRow w7.heap.size 23 2 (.slice none 0 0) 0 []) := World.ownsRow_nil _ _ _ _
            have HRm7 : Hid (RdP w7 (.slice am nm cm) rm) := HRm6.out.below g7.below
            have HRu7 : Hid (RdP w7 (.slice au nu cu) ru) := HRu6.out.below g7.below
            have x0 := g7.cell t0
            have x1 := g7.cell t1
            have HB7 : Hid (Below w.heap.size w w7) := HB6.out.trans (g7.below.mono HB6.out.size)
            have hs7 : w7.heap.size ≤ w7.heap.size := Nat.le_refl _
            clear g7 kHo t0 t1 HRm6 HRu6
            go_upto_region 19 with (first
              | (at_builtin; refine wpList_appK rfl _ _ 28 rfl w7.heap.size 23 i0 (.agg #[.int .i64 0, .int .i64 0]) 2 16 Try.underlying28 hi hz0 hz1 hz2 rfl (by decide) _ _ _ rfl HO0.out _ _ _ rfl HRm7.out (HOne.out _) HZ.out.1 HZ.out.2.1 hs7 ?_; intro v9 w9 hown9 hgrow9 hnil9; clear hnil9))
            rw [List.nil_append, Nat.zero_add] at hown9
            have bb9 : Below w7.heap.size w7 w9 := (Below.refl _ _).grown hgrow9 hs7 (fun j hj => (World.ownsRow.lt HO0.out j hj).1)
            obtain ⟨a9, n9, c9, hv9⟩ := own_sl hown9
            subst hv9
            have HO9 : Hid _ := hown9
            have HB9 : Hid (Below w7.heap.size w7 w9) := bb9
            have HRu9 : Hid (RdP w9 (.slice au nu cu) ru) := HRu7.out.below bb9
            have hs9 : w7.heap.size ≤ w9.heap.size := bb9.size
            clear hown9 hgrow9 bb9 HO0
            go_upto_region 20 with (first
              | (at_builtin; refine wpList_appK rfl _ _ 28 rfl w7.heap.size 23 i0 (.agg #[.int .i64 0, .int .i64 0]) 2 16 Try.underlying28 hi hz0 hz1 hz2 rfl (by decide) _ _ _ rfl HO9.out _ _ _ rfl HRu9.out (HOne.out _) HZ.out.2.2.1 HZ.out.2.2.2.1 hs9 ?_; intro v10 w10 hown10 hgrow10 hnil10; clear hnil10))
            have bb10 : Below w7.heap.size w7 w10 := HB9.out.grown hgrow10 hs9 (fun j hj => (World.ownsRow.lt HO9.out j hj).1)
            rw [← pv_app] at hown10
            have rall : RdP w10 v10 (rm ++ ru) := by have := RdsK.of_own hown10; unfold RdP; rw [List.length_append]; exact this
            have kU2 := union_any w10 v10 (rm ++ ru) rall (by rw [List.length_append]; exact HZ.out.2.2.2.2)
            obtain ⟨a10, n10, c10, hv10⟩ := own_sl hown10
            subst hv10
            have y0 : w10.cell? ⟨w.heap.size, 0, none⟩ = some (.int .i64 F) := by rw [bb10.cell (World.block_lt_of_cell? _ _ x0)]; exact x0
            have y1 : w10.cell? ⟨w.heap.size, 1, none⟩ = some (.int .i64 T) := by rw [bb10.cell (World.block_lt_of_cell? _ _ x1)]; exact x1
            have HB10 : Hid (Below w.heap.size w w10) := HB7.out.trans (bb10.mono HB7.out.size)
            clear hown10 hgrow10 bb10 rall HO9 HB9 HRu9 HRu7 HRm7 x0 x1
            go_wp2_with fail
            refine kU2.mono ?_
            rintro e w8 ⟨v8', rfl, rk, o8, hN8, hA8, -, b8⟩
            have hk := HFin.out rk hN8 hA8
            obtain ⟨ak, nk, ck, hvk⟩ := own_sl o8
            subst hvk
            have z0 : w8.cell? ⟨w.heap.size, 0, none⟩ = some (.int .i64 F) := by rw [b8.cell (World.block_lt_of_cell? _ _ y0)]; exact y0
            have z1 : w8.cell? ⟨w.heap.size, 1, none⟩ = some (.int .i64 T) := by rw [b8.cell (World.block_lt_of_cell? _ _ y1)]; exact y1
            have HB8 : Hid (Below w.heap.size w w8) := HB10.out.trans (b8.mono HB10.out.size)
            have rk8 := o8.rd
            have hnk := rk8.at.1
            have z0' := fun nq os => cell_gr z0 nq os
            have z1' := fun nq os => cell_gr z1 nq os
            clear kU2 o8 hN8 hA8 b8 y0 y1 z0 z1 HZ HFin HB10
            by_cases hem : emp (F, T) = true
            · rw [hem, if_pos rfl] at hk
              subst hk
              have hnk0 : nk = 0 := hnk
              subst hnk0
              have kE : ∀ nq os, Calls Try.prog 13 #[.agg #[.int .i64 F, .int .i64 T]] (grow (w8.drewN nq) os) fun e w' => e = .returned (.bool true) ∧ ∃ q os', w' = grow ((grow (w8.drewN nq) os).drewN q) os' := fun nq os => by have := empty_any (grow (w8.drewN nq) os) (F, T); rw [hem] at this; exact this
              clear hnk rk8 hem
              go_wp2_with fail
              refine wp_region_quiet_grown (by assumption) (by kernel_rfl) ?_
              repeat (go_big_quiet_step (first | (go_at_call 13; with_reducible refine Calls.grown_of (kE _ _))))
              refine wpQuiet_nil ?_
              intro Y hw'
              obtain ⟨⟨nq, osq⟩, hw''⟩ := hw'
              have HBY : Hid (Below w.heap.size w Y) := HB8.out.trans ((Grows.below ⟨nq, osq, hw''⟩).mono HB8.out.size)
              clear hw'' kE
              go_wp2_with fail
              go_ret
              exact ⟨rfl, HBY.out⟩
            · have hem' : emp (F, T) = false := by simpa using hem
              rw [hem', if_neg (by simp)] at hk
              subst hk
              have hnk0 : nk = 1 := hnk
              subst hnk0
              obtain ⟨bk, offk, rfl, hclk⟩ := rk8.cell (by simp)
              obtain ⟨m0, m1⟩ := hclk 0 (F, T) rfl
              simp only [Nat.zero_mul, Nat.add_zero] at m0 m1
              have m0' := fun nq os => cell_gr m0 nq os
              have m1' := fun nq os => cell_gr m1 nq os
              have kE : ∀ nq os, Calls Try.prog 13 #[.agg #[.int .i64 F, .int .i64 T]] (grow (w8.drewN nq) os) fun e w' => e = .returned (.bool false) ∧ ∃ q os', w' = grow ((grow (w8.drewN nq) os).drewN q) os' := fun nq os => by have := empty_any (grow (w8.drewN nq) os) (F, T); rw [hem'] at this; exact this
              clear hnk rk8 hem hem' hclk m0 m1
              go_wp2_with fail
              refine wp_region_quiet_grown (by assumption) (by kernel_rfl) ?_
              repeat (go_big_quiet_step (first | (go_at_call 13; with_reducible refine Calls.grown_of (kE _ _))))
              refine wpQuiet_nil ?_
              intro Y hw'
              obtain ⟨⟨nq, osq⟩, hw''⟩ := hw'
              have HBY : Hid (Below w.heap.size w Y) := HB8.out.trans ((Grows.below ⟨nq, osq, hw''⟩).mono HB8.out.size)
              clear hw'' kE
              go_wp2_with fail
              go_ret
              exact ⟨rfl, HBY.out⟩
          | true =>
            go_wp2_with fail
            refine (kHo _).mono ?_
            rintro e w7 ⟨rfl, g7⟩
            have HO0 : Hid (w7.ownsRow w7.heap.size 23 2 (.slice none 0 0) 0 []) := World.ownsRow_nil _ _ _ _
            have HRm7 : Hid (RdP w7 (.slice am nm cm) rm) := HRm6.out.below g7.below
            have HRu7 : Hid (RdP w7 (.slice au nu cu) ru) := HRu6.out.below g7.below
            have x0 := g7.cell t0
            have x1 := g7.cell t1
            have HB7 : Hid (Below w.heap.size w w7) := HB6.out.trans (g7.below.mono HB6.out.size)
            have hs7 : w7.heap.size ≤ w7.heap.size := Nat.le_refl _
            clear g7 kHo t0 t1 HRm6 HRu6
            go_upto_region 19 with (first
              | (at_builtin; refine wpList_appK rfl _ _ 28 rfl w7.heap.size 23 i0 (.agg #[.int .i64 0, .int .i64 0]) 2 16 Try.underlying28 hi hz0 hz1 hz2 rfl (by decide) _ _ _ rfl HO0.out _ _ _ rfl HRm7.out (HOne.out _) HZ.out.1 HZ.out.2.1 hs7 ?_; intro v9 w9 hown9 hgrow9 hnil9; clear hnil9))
            rw [List.nil_append, Nat.zero_add] at hown9
            have bb9 : Below w7.heap.size w7 w9 := (Below.refl _ _).grown hgrow9 hs7 (fun j hj => (World.ownsRow.lt HO0.out j hj).1)
            obtain ⟨a9, n9, c9, hv9⟩ := own_sl hown9
            subst hv9
            have HO9 : Hid _ := hown9
            have HB9 : Hid (Below w7.heap.size w7 w9) := bb9
            have HRu9 : Hid (RdP w9 (.slice au nu cu) ru) := HRu7.out.below bb9
            have hs9 : w7.heap.size ≤ w9.heap.size := bb9.size
            clear hown9 hgrow9 bb9 HO0
            go_upto_region 20 with (first
              | (at_builtin; refine wpList_appK rfl _ _ 28 rfl w7.heap.size 23 i0 (.agg #[.int .i64 0, .int .i64 0]) 2 16 Try.underlying28 hi hz0 hz1 hz2 rfl (by decide) _ _ _ rfl HO9.out _ _ _ rfl HRu9.out (HOne.out _) HZ.out.2.2.1 HZ.out.2.2.2.1 hs9 ?_; intro v10 w10 hown10 hgrow10 hnil10; clear hnil10))
            have bb10 : Below w7.heap.size w7 w10 := HB9.out.grown hgrow10 hs9 (fun j hj => (World.ownsRow.lt HO9.out j hj).1)
            rw [← pv_app] at hown10
            have rall : RdP w10 v10 (rm ++ ru) := by have := RdsK.of_own hown10; unfold RdP; rw [List.length_append]; exact this
            have kU2 := union_any w10 v10 (rm ++ ru) rall (by rw [List.length_append]; exact HZ.out.2.2.2.2)
            obtain ⟨a10, n10, c10, hv10⟩ := own_sl hown10
            subst hv10
            have y0 : w10.cell? ⟨w.heap.size, 0, none⟩ = some (.int .i64 F) := by rw [bb10.cell (World.block_lt_of_cell? _ _ x0)]; exact x0
            have y1 : w10.cell? ⟨w.heap.size, 1, none⟩ = some (.int .i64 T) := by rw [bb10.cell (World.block_lt_of_cell? _ _ x1)]; exact x1
            have HB10 : Hid (Below w.heap.size w w10) := HB7.out.trans (bb10.mono HB7.out.size)
            clear hown10 hgrow10 bb10 rall HO9 HB9 HRu9 HRu7 HRm7 x0 x1
            go_wp2_with fail
            refine kU2.mono ?_
            rintro e w8 ⟨v8', rfl, rk, o8, hN8, hA8, -, b8⟩
            have hk := HFin.out rk hN8 hA8
            obtain ⟨ak, nk, ck, hvk⟩ := own_sl o8
            subst hvk
            have z0 : w8.cell? ⟨w.heap.size, 0, none⟩ = some (.int .i64 F) := by rw [b8.cell (World.block_lt_of_cell? _ _ y0)]; exact y0
            have z1 : w8.cell? ⟨w.heap.size, 1, none⟩ = some (.int .i64 T) := by rw [b8.cell (World.block_lt_of_cell? _ _ y1)]; exact y1
            have HB8 : Hid (Below w.heap.size w w8) := HB10.out.trans (b8.mono HB10.out.size)
            have rk8 := o8.rd
            have hnk := rk8.at.1
            have z0' := fun nq os => cell_gr z0 nq os
            have z1' := fun nq os => cell_gr z1 nq os
            clear kU2 o8 hN8 hA8 b8 y0 y1 z0 z1 HZ HFin HB10
            by_cases hem : emp (F, T) = true
            · rw [hem, if_pos rfl] at hk
              subst hk
              have hnk0 : nk = 0 := hnk
              subst hnk0
              have kE : ∀ nq os, Calls Try.prog 13 #[.agg #[.int .i64 F, .int .i64 T]] (grow (w8.drewN nq) os) fun e w' => e = .returned (.bool true) ∧ ∃ q os', w' = grow ((grow (w8.drewN nq) os).drewN q) os' := fun nq os => by have := empty_any (grow (w8.drewN nq) os) (F, T); rw [hem] at this; exact this
              clear hnk rk8 hem
              go_wp2_with fail
              refine wp_region_quiet_grown (by assumption) (by kernel_rfl) ?_
              repeat (go_big_quiet_step (first | (go_at_call 13; with_reducible refine Calls.grown_of (kE _ _))))
              refine wpQuiet_nil ?_
              intro Y hw'
              obtain ⟨⟨nq, osq⟩, hw''⟩ := hw'
              have HBY : Hid (Below w.heap.size w Y) := HB8.out.trans ((Grows.below ⟨nq, osq, hw''⟩).mono HB8.out.size)
              clear hw'' kE
              go_wp2_with fail
              go_ret
              exact ⟨rfl, HBY.out⟩
            · have hem' : emp (F, T) = false := by simpa using hem
              rw [hem', if_neg (by simp)] at hk
              subst hk
              have hnk0 : nk = 1 := hnk
              subst hnk0
              obtain ⟨bk, offk, rfl, hclk⟩ := rk8.cell (by simp)
              obtain ⟨m0, m1⟩ := hclk 0 (F, T) rfl
              simp only [Nat.zero_mul, Nat.add_zero] at m0 m1
              have m0' := fun nq os => cell_gr m0 nq os
              have m1' := fun nq os => cell_gr m1 nq os
              have kE : ∀ nq os, Calls Try.prog 13 #[.agg #[.int .i64 F, .int .i64 T]] (grow (w8.drewN nq) os) fun e w' => e = .returned (.bool false) ∧ ∃ q os', w' = grow ((grow (w8.drewN nq) os).drewN q) os' := fun nq os => by have := empty_any (grow (w8.drewN nq) os) (F, T); rw [hem'] at this; exact this
              clear hnk rk8 hem hem' hclk m0 m1
              go_wp2_with fail
              refine wp_region_quiet_grown (by assumption) (by kernel_rfl) ?_
              repeat (go_big_quiet_step (first | (go_at_call 13; with_reducible refine Calls.grown_of (kE _ _))))
              refine wpQuiet_nil ?_
              intro Y hw'
              obtain ⟨⟨nq, osq⟩, hw''⟩ := hw'
              have HBY : Hid (Below w.heap.size w Y) := HB8.out.trans ((Grows.below ⟨nq, osq, hw''⟩).mono HB8.out.size)
              clear hw'' kE
              go_wp2_with fail
              go_ret
              exact ⟨rfl, HBY.out⟩
  · have h2z : (nl : Int) > 200 := by omega
    clear HX bW c0 hsW bb1 HW b1 r1 kA
    go_wp2_with fail
    go_ret
    exact ⟨rfl, HB1.out⟩
end Go.Proofs.Ythijbpodkklcnaa
