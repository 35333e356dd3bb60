/- The contract of the reference's Parts. -/
import Derived.Test.YthijbpodkklcnaaRAny
import Derived.Test.YthijbpodkklcnaaSort
namespace Go.Proofs.Ythijbpodkklcnaa
open Go.RowKit Go.Sort

/-- append of a row of one's own, as one step of a region that draws. -/
theorem step_appK {P : Program} {ops : Array Oper} {o : Oper} {a : Act} {w : World} {K : Act → World → Prop} {Q : Exit → Act → World → Prop} {E : Prop} (hgd : o.guard = none) (s x : Operand) (t : TypeId)
    (ho : o.op = .call { callee := .builtin .append, args := #[s, x], argTypes := #[t, t] })
    (base : Nat) (e : TypeId) (i : TypeInfo) (z : Value) (size bytes : Nat) (ht : P.underlying t = some (.slice e)) (hi : P.info? e = some i) (hz : i.zero = some z)
    (hsize : i.size = size) (hby : i.bytes = bytes) (hzs : z.cells.size = size) (hsz : 0 < size)
    (v : Value) (n : Nat) (xs : List Value) (hs : a.eval s = v) (hown : w.ownsRow base e size v n xs)
    (ad : Addr) (m c : Nat) (news : List Value) (hx : a.eval x = .slice (some ad) m c) (hr : RdsK size w (.slice (some ad) m c) m news) (h1 : ∀ u ∈ news, u.oneCell' = true)
    (h63 : n + m ≤ maxLen) (hbytes : ((n + m) + (n + m) / 4 + 192) * bytes ≤ 281474976710656) (hbase : base ≤ w.heap.size)
    (h : ∀ v' w', w'.ownsRow base e size v' (n + m) (xs ++ news) → w.grownBy w' v.ownBlock → K (a.put o.dst v') w') :
    if Region.wanted o (yielded ops a.tmps) = true then Oper.wp P o a w K Q else E := by
  have hw : Region.wanted o (yielded ops a.tmps) = true := by simp [Region.wanted, hgd]
  rw [if_pos hw]
  obtain ⟨ao, cap, he, h0, h2, h3, h4, h5⟩ := hr
  cases he
  exact wp_append_own_wide w s x t ho base e i z size bytes ht hi hz hsize hby hzs hsz v n xs hs hown ad m c news hx h0 (h5 ad rfl) h1 h63 hbytes hbase fun v' w' k1 k2 _ => h v' w' k1 k2

theorem pv_set : ∀ (l : List Sp) (j : Nat) (x : Sp), j < l.length → pv (l.set j x) = ((pv l).set (j * 2) (.int .i64 x.1)).set (j * 2 + 1) (.int .i64 x.2)
  | a :: l, 0, x, _ => by simp [pv, pc]
  | a :: l, j + 1, x, h => by
    have ih := pv_set l j x (by simpa using h)
    simp only [pv, List.set_cons_succ, List.flatMap_cons] at *
    rw [ih]
    simp [pc, show (j + 1) * 2 = j * 2 + 1 + 1 by omega]
/-- Only the second number of a span is written. -/
theorem pv_set2 (l : List Sp) (j : Nat) (h : j < l.length) (T : Int) : pv (l.set j (l[j].1, T)) = (pv l).set (j * 2 + 1) (.int .i64 T) := by
  rw [pv_set l j _ h]
  congr 1
  have := pv_get l j 0 h (by decide)
  simp [pc] at this
  exact List.ext_getElem? fun i => by
    rw [List.getElem?_set]
    split
    · next e => subst e; rw [this]; simp [pv_length]; omega
    · rfl

set_option maxHeartbeats 4000000 in
theorem refparts_any (w : World) (va vb : Value) (a b : List Sp) (ha : RdP w va a) (hb : RdP w vb b) (hbig : a.length + b.length ≤ 450) :
    Calls Try.prog 15 #[va, vb] w fun e w' => ∃ v', e = .returned v' ∧ RdP w' v' (parts a b) ∧ Below w.heap.size w w' := by
  obtain ⟨i0, hi, hz0, hz1, hz2⟩ := info_parts Try.info_span
  obtain ⟨aa, na, ca, rfl⟩ := ha.sl
  obtain ⟨ab, nb, cb, rfl⟩ := hb.sl
  have HA : Hid (RdP w (.slice aa na ca) a) := ha
  have HB : Hid (RdP w (.slice ab nb cb) b) := hb
  have HOne : Aside (∀ l : List Sp, ∀ v ∈ pv l, v.oneCell' = true) := pv_one
  have e1 : 0 + a.length ≤ maxLen ∧ ((0 + a.length) + (0 + a.length) / 4 + 192) * 16 ≤ 281474976710656 ∧ a.length + b.length ≤ maxLen ∧ ((a.length + b.length) + (a.length + b.length) / 4 + 192) * 16 ≤ 281474976710656 := by unfold maxLen; omega
  have HO0 : Hid (w.ownsRow w.heap.size 23 2 (.slice none 0 0) 0 []) := World.ownsRow_nil _ _ _ _
  have hs0 : w.heap.size ≤ w.heap.size := Nat.le_refl _
  clear ha hb
  go_enter Try.func15, Try.ntmps15
  go_upto_region 3 with (first
    | (at_builtin; refine wpList_appK rfl _ _ 28 rfl w.heap.size 23 i0 (.agg #[.int .i64 0, .int .i64 0]) 2 16 Try.underlying28 hi hz0 hz1 hz2 rfl (by decide) _ _ _ rfl HO0.out _ _ _ rfl HA.out (HOne.out _) e1.1 e1.2.1 hs0 ?_; intro v1 w1 hown1 hgrow1 hnil1; clear hnil1))
  rw [List.nil_append, Nat.zero_add] at hown1
  have bb1 : Below w.heap.size w w1 := (Below.refl _ _).grown hgrow1 hs0 (fun j hj => (World.ownsRow.lt HO0.out j hj).1)
  obtain ⟨a1, n1, c1, hv1⟩ := own_sl hown1
  subst hv1
  have HO1 : Hid _ := hown1
  have HB1 : Hid _ := bb1
  have HR1 : Hid (RdP w1 (.slice ab nb cb) b) := HB.out.below bb1
  have hs1 : w.heap.size ≤ w1.heap.size := bb1.size
  clear hown1 hgrow1 bb1 HO0
  go_upto_region 4 with (first
    | (at_builtin; refine wpList_appK rfl _ _ 28 rfl w.heap.size 23 i0 (.agg #[.int .i64 0, .int .i64 0]) 2 16 Try.underlying28 hi hz0 hz1 hz2 rfl (by decide) _ _ _ rfl HO1.out _ _ _ rfl HR1.out (HOne.out _) e1.2.2.1 e1.2.2.2 hs1 ?_; intro v2 w2 hown2 hgrow2 hnil2; clear hnil2))
  have bb2 : Below w.heap.size w w2 := HB1.out.grown hgrow2 hs1 (fun j hj => (World.ownsRow.lt HO1.out j hj).1)
  rw [← pv_app] at hown2
  have rall : RdP w2 v2 (a ++ b) := by have := RdsK.of_own hown2; unfold RdP; rw [List.length_append]; exact this
  have kE := refedges_any w2 v2 (a ++ b) rall (by simpa using hbig)
  obtain ⟨a2, n2, c2, hv2⟩ := own_sl hown2
  subst hv2
  have HB2 : Hid _ := bb2
  have hel := edges_length (a ++ b)
  rw [List.length_append] at hel
  have HPd : Hid (parts a b = prt a b (edges (a ++ b)) ((edges (a ++ b)).length - 1)) := rfl
  clear hown2 hgrow2 bb2 HO1 HR1 HB1 rall
  generalize edges (a ++ b) = E at *
  go_wp2_with fail
  refine kE.mono ?_
  rintro e w3 ⟨v3, rfl, r3, b3⟩
  obtain ⟨a3, n3, c3, hv3⟩ := r3.sl
  subst hv3
  obtain ⟨hn3, c31, c32, c33⟩ := r3.cells
  rw [iv_length] at hn3 c31 c33
  rw [← hn3] at c31 c33
  unfold maxLen at c32
  have HN : Hid (n3 = E.length) := hn3
  have hn3b : n3 ≤ 900 := by omega
  have HR3 : Hid (Rds w3 (.slice a3 n3 c3) (iv E)) := r3
  have HB3 : Hid (Below w.heap.size w w3) := HB2.out.trans (b3.mono HB2.out.size)
  clear kE r3 b3 HB2 hn3 c33 hel
  go_wp2_with fail
  go_loopg [7, 8] n3 (fun kx v7 vi wr => ∃ (i m : Nat) (out : List Sp), vi = .int .i64 i ∧ n3 - i ≤ kx ∧ i ≤ n3 ∧ (i = 0 ∨ i + 1 ≤ n3) ∧ m ≤ i ∧ Hid (m = out.length) ∧ Hid (OwP wr w3.heap.size v7 out) ∧ Hid (out = prt a b E i) ∧ Hid (Below w3.heap.size w3 wr))
  case atStart => exact ⟨0, 0, [], rfl, Nat.le_refl _, Nat.zero_le _, .inl rfl, Nat.le_refl _, rfl, OwP.nil _ _, rfl, Below.refl _ _⟩
  case round =>
    obtain ⟨i, m, out, rfl, hkx, hin, hi1, hmi, HM, HO, HX, HBr⟩ := hrel
    obtain ⟨a7, n7, c7, hv7⟩ := own_sl HO.out
    subst hv7
    have h7 : n7 = m := by rw [HM.out]; exact HO.out.rd.at.1
    subst h7
    by_cases hlt : i + 1 < n3
    · have hltz : (i : Int) + 1 < (n3 : Int) := by omega
      have hiE : i < E.length := by have := HN.out; omega
      have hiE1 : i + 1 < E.length := by have := HN.out; omega
      have hrE := HR3.out.below HBr.out
      obtain ⟨-, -, -, hk3⟩ := hrE.cells
      rw [iv_length] at hk3
      obtain ⟨b3, off3, rfl, hcl3⟩ := hk3 (by omega)
      have q0 := hcl3 i _ (iv_get E i hiE)
      have q1 := hcl3 (i + 1) _ (iv_get E (i + 1) hiE1)
      have b3w : Below w.heap.size w wr := HB3.out.trans (HBr.out.mono HB3.out.size)
      have kA := fun W (g : Grows wr W) => refany_any W (.slice aa na ca) a (E.getD i 0) ((HA.out.below b3w).below g.below)
      have kB := fun W (g : Grows wr W) => refany_any W (.slice ab nb cb) b (E.getD i 0) ((HB.out.below b3w).below g.below)
      have HP : Hid (prt a b E (i + 1) = if (any a (E.getD i 0) && !any b (E.getD i 0)) then pst out (E.getD i 0) (E.getD (i + 1) 0) else out) := by show _ = _; rw [prt, ← HX.out]; rfl
      generalize E.getD i 0 = f at *
      generalize E.getD (i + 1) 0 = t at *
      generalize any a f = ya at *
      generalize any b f = yb at *
      have kA0 := kA wr (Grows.refl _)
      have HQ : Hid (∀ W, Grows wr W → W.cell? ⟨b3, off3 + i, none⟩ = some (.int .i64 f) ∧ W.cell? ⟨b3, off3 + (i + 1), none⟩ = some (.int .i64 t)) := fun W g => ⟨by rw [g.below.cell (World.block_lt_of_cell? _ _ q0)]; exact q0, by rw [g.below.cell (World.block_lt_of_cell? _ _ q1)]; exact q1⟩
      have HKB : Aside _ := kB
      clear hcl3 hk3 hrE b3w kA kB q1
      go_wp2_with fail
      refine kA0.mono ?_
      rintro e w4 ⟨rfl, g4⟩
      have kB0 := HKB.out w4 g4
      have q4 := (HQ.out w4 g4).1
      have HG4 : Hid (Grows wr w4) := g4
      clear kA0 g4 q0
      go_wp2_with fail
      refine kB0.mono ?_
      rintro e w5 ⟨rfl, g5⟩
      have g5' : Grows wr w5 := HG4.out.trans g5
      obtain ⟨r0, r1⟩ := HQ.out w5 g5'
      have HO5 : Hid (OwP w5 w3.heap.size (.slice a7 n7 c7) out) := HO.out.below g5'.below
      have HB5 : Hid (Below w3.heap.size w3 w5) := HBr.out.trans (g5'.below.mono HBr.out.size)
      clear kB0 g5 g5' q4 HG4 HQ HKB
      have stay : ∀ z : Bool, (ya && !yb) = z → z = false → prt a b E (i + 1) = out := fun z h1 h2 => by rw [HP.out, h1, h2]; rfl
      cases ya with
      | false =>
        have HS : Hid _ := stay _ rfl rfl
        clear stay
        go_wp2_with fail
        go_roundg (n3 - (i + 1))
        case measure => omega
        case rel => exact ⟨i + 1, n7, out, by go_num, Nat.le_refl _, by omega, .inr (by omega), by omega, HM.out, HO5.out, HS.out.symm, HB5.out⟩
      | true =>
        cases yb with
        | true =>
          have HS : Hid _ := stay _ rfl rfl
          clear stay
          go_wp2_with fail
          go_roundg (n3 - (i + 1))
          case measure => omega
          case rel => exact ⟨i + 1, n7, out, by go_num, Nat.le_refl _, by omega, .inr (by omega), by omega, HM.out, HO5.out, HS.out.symm, HB5.out⟩
        | false =>
          clear stay
          have HP2 : Hid (prt a b E (i + 1) = pst out f t) := by show _ = _; rw [HP.out]; rfl
          have h7c := HO5.out.rd.at
          obtain ⟨-, h7a, h7b, h7d⟩ := h7c
          unfold maxLen at h7b
          rcases Nat.eq_zero_or_pos n7 with hz | hp
          · have hzb : decide (0 < n7) = false := by simp; omega
            have ho : out = [] := List.eq_nil_of_length_eq_zero (by have := HM.out; omega)
            have HP3 : Hid (prt a b E (i + 1) = out ++ [(f, t)]) := by show _ = _; rw [HP2.out, ho, pst_nil]; rfl
            clear ho h7d hz
            go_wp2_with fail
            go_quiet (fail)
            go_wp2_with fail
            obtain ⟨U, hU⟩ : ∃ U, U = w5.drewN nq := ⟨_, rfl⟩
            have u0 : U.cell? ⟨b3, off3 + i, none⟩ = some (.int .i64 f) := by rw [hU]; exact r0
            have u1 : U.cell? ⟨b3, off3 + (i + 1), none⟩ = some (.int .i64 t) := by rw [hU]; exact r1
            have gU : Grows w5 U := by rw [hU]; exact Grows.drewN _ _
            rw [← hU]
            have gV : Grows U (U.alloc (.cells #[.int .i64 f, .int .i64 t] 23)).drew := (Grows.alloc _ _).trans (Grows.drewN _ 1)
            have HOV : Hid (OwP (U.alloc (.cells #[.int .i64 f, .int .i64 t] 23)).drew w3.heap.size (.slice a7 n7 c7) out) := HO5.out.below (gU.trans gV).below
            have HVR : Hid (RdsK 2 (U.alloc (.cells #[.int .i64 f, .int .i64 t] 23)).drew (.slice (some ⟨U.heap.size, 0, none⟩) 1 1) 1 (pv [(f, t)])) := RdsK.below (one_rds U (f, t) _ rfl) (Grows.below (Grows.drewN _ 1))
            have hsV : w3.heap.size ≤ (U.alloc (.cells #[.int .i64 f, .int .i64 t] 23)).drew.heap.size := Nat.le_trans HB5.out.size (gU.trans gV).below.size
            have HVS : Hid _ := hsV
            have HVB : Hid (Below w3.heap.size w3 (U.alloc (.cells #[.int .i64 f, .int .i64 t] 23)).drew) := HB5.out.trans ((gU.trans gV).below.mono HB5.out.size)
            have hml := HM.out
            have HZ : Hid (out.length + 1 ≤ maxLen ∧ ((out.length + 1) + (out.length + 1) / 4 + 192) * 16 ≤ 281474976710656) := ⟨by unfold maxLen; omega, by omega⟩
            have hbi : (i : Int) < (n3 : Int) := by omega
            have hbN : i < n3 := by omega
            have hwi : IntKind.i64.wrap ((i : Int) + 1) = (i : Int) + 1 := by simp [IntKind.wrap, IntKind.bits, IntKind.signed]; omega
            have hw0 : 0 ≤ (i : Int) + 1 := by omega
            have hwt : ((i : Int) + 1).toNat = i + 1 := by omega
            clear hU gU gV hsV r0 r1 hml
            go_region_law (refine step_appK rfl (.tmp 71) (.tmp 82) 28 rfl w3.heap.size 23 i0 (.agg #[.int .i64 0, .int .i64 0]) 2 16 Try.underlying28 hi hz0 hz1 hz2 rfl (by decide) (.slice a7 n7 c7) out.length (pv out) rfl HOV.out _ 1 1 (pv [(f, t)]) rfl HVR.out (HOne.out _) HZ.out.1 HZ.out.2 HVS.out ?_; intro v9 w9 hown9 hgrow9)
            all_goals
              have HO9 : Hid (OwP w9 w3.heap.size v9 (out ++ [(f, t)]) ∧ Below w3.heap.size w3 w9) := ⟨by unfold OwP; rw [pv_app, List.length_append]; exact hown9, HVB.out.grown hgrow9 HVS.out (fun j hj => (World.ownsRow.lt HOV.out j hj).1)⟩
              obtain ⟨a9, n9, c9, hv9⟩ := own_sl hown9
              subst hv9
              clear hown9 hgrow9
              go_wp2_with fail
              go_roundg (n3 - (i + 1))
              case measure => omega
              case rel => exact ⟨i + 1, n7 + 1, out ++ [(f, t)], by go_num, Nat.le_refl _, by omega, .inr (by omega), by omega, (by show _ = _; rw [HM.out]; simp), HO9.out.1, HP3.out.symm, HO9.out.2⟩
          · have hzb : decide (0 < n7) = true := by simp; omega
            clear h7d
            have hml := HM.out
            have HOo := HO5.out
            rcases HOo.2 with ⟨hnil, hn0⟩ | ⟨g, cap, cur, hv, hbg, hgb, hnc, hcm, hcs, htk⟩
            · omega
            · simp only [Value.slice.injEq] at hv
              obtain ⟨rfl, -, rfl⟩ := hv
              have HBG : Hid (w3.heap.size ≤ g) := hbg
              have hlt7 : n7 - 1 < out.length := by omega
              have HOx : w5.ownsRow w3.heap.size 23 2 (.slice (some ⟨g, 0, none⟩) n7 c7) n7 (pv out) := by have := HO5.out; unfold OwP at this; rw [← hml] at this; exact this
              have p0 : w5.cell? ⟨g, (n7 - 1) * 2, none⟩ = some (.int .i64 (out[n7 - 1]'hlt7).1) := by
                rw [World.ownsRow.cellAt HOx _ (by omega)]
                have := pv_get out (n7 - 1) 0 hlt7 (by decide)
                simpa [pc] using this
              have p1 : w5.cell? ⟨g, (n7 - 1) * 2 + 1, none⟩ = some (.int .i64 (out[n7 - 1]'hlt7).2) := by
                rw [World.ownsRow.cellAt HOx _ (by omega)]
                have := pv_get out (n7 - 1) 1 hlt7 (by decide)
                simpa [pc] using this
              have pf : w5.frozen? ⟨g, (n7 - 1) * 2 + 1, none⟩ = false := World.ownsRow.frozenAt HOx _
              have hst := World.ownsRow.stored HOx ((n7 - 1) * 2 + 1) (.int .i64 t)
              rw [← pv_set2 out (n7 - 1) hlt7 t] at hst
              have HSt : Hid _ := hst
              have hps : pst out f t = if (out[n7 - 1]'hlt7).2 = f then out.set (n7 - 1) ((out[n7 - 1]'hlt7).1, t) else out ++ [(f, t)] := by
                unfold pst
                rw [← hml]
                have hgd : out.getD (n7 - 1) (0, 0) = out[n7 - 1]'hlt7 := by simp [hlt7]
                rw [hgd]
                by_cases c : (out[n7 - 1]'hlt7).2 = f
                · rw [if_pos ⟨by omega, c⟩, if_pos c]
                · rw [if_neg (fun h => c h.2), if_neg c]
              have HPs := HP2.out
              rw [hps] at HPs
              generalize out[n7 - 1]'hlt7 = p at *
              obtain ⟨P1, P2⟩ := p
              simp only at p0 p1 HPs HSt
              clear hst hps HOx hml hbg hgb hnc hcm hcs htk hlt7 HOo
              by_cases he : P2 = f
              · have heb : (P2 == f) = true := by simp [he]
                rw [if_pos he] at HPs
                have HP3 : Hid _ := HPs
                have HL : Hid (n7 = (out.set (n7 - 1) (P1, t)).length) := by show _ = _; rw [List.length_set]; exact HM.out
                clear HPs he
                go_wp2_with fail
                go_quiet (fail)
                go_wp2_with fail
                go_roundg (n3 - (i + 1))
                case measure => omega
                case rel =>
                  refine ⟨i + 1, n7, out.set (n7 - 1) (P1, t), by go_num, Nat.le_refl _, by omega, .inr (by omega), by omega, HL.out, ?_, HP3.out.symm, ?_⟩
                  · show OwP _ _ _ _
                    unfold OwP
                    rw [← HL.out]
                    exact HSt.out.1
                  · first
                      | exact (below_dN HB5.out _).setCell HBG.out _
                      | exact below_dN (HB5.out.setCell HBG.out _) _
              · have heb : (P2 == f) = false := by simp [he]
                rw [if_neg he] at HPs
                have HP3 : Hid (prt a b E (i + 1) = out ++ [(f, t)]) := HPs
                clear HPs
                go_wp2_with fail
                go_quiet (fail)
                go_wp2_with fail
                obtain ⟨U, hU⟩ : ∃ U, U = w5.drewN nq := ⟨_, rfl⟩
                have u0 : U.cell? ⟨b3, off3 + i, none⟩ = some (.int .i64 f) := by rw [hU]; exact r0
                have u1 : U.cell? ⟨b3, off3 + (i + 1), none⟩ = some (.int .i64 t) := by rw [hU]; exact r1
                have gU : Grows w5 U := by rw [hU]; exact Grows.drewN _ _
                rw [← hU]
                have gV : Grows U (U.alloc (.cells #[.int .i64 f, .int .i64 t] 23)).drew := (Grows.alloc _ _).trans (Grows.drewN _ 1)
                have HOV : Hid (OwP (U.alloc (.cells #[.int .i64 f, .int .i64 t] 23)).drew w3.heap.size (.slice (some ⟨g, 0, none⟩) n7 c7) out) := HO5.out.below (gU.trans gV).below
                have HVR : Hid (RdsK 2 (U.alloc (.cells #[.int .i64 f, .int .i64 t] 23)).drew (.slice (some ⟨U.heap.size, 0, none⟩) 1 1) 1 (pv [(f, t)])) := RdsK.below (one_rds U (f, t) _ rfl) (Grows.below (Grows.drewN _ 1))
                have hsV : w3.heap.size ≤ (U.alloc (.cells #[.int .i64 f, .int .i64 t] 23)).drew.heap.size := Nat.le_trans HB5.out.size (gU.trans gV).below.size
                have HVS : Hid _ := hsV
                have HVB : Hid (Below w3.heap.size w3 (U.alloc (.cells #[.int .i64 f, .int .i64 t] 23)).drew) := HB5.out.trans ((gU.trans gV).below.mono HB5.out.size)
                have hml := HM.out
                have HZ : Hid (out.length + 1 ≤ maxLen ∧ ((out.length + 1) + (out.length + 1) / 4 + 192) * 16 ≤ 281474976710656) := ⟨by unfold maxLen; omega, by omega⟩
                have hbi : (i : Int) < (n3 : Int) := by omega
                have hbN : i < n3 := by omega
                have hwi : IntKind.i64.wrap ((i : Int) + 1) = (i : Int) + 1 := by simp [IntKind.wrap, IntKind.bits, IntKind.signed]; omega
                have hw0 : 0 ≤ (i : Int) + 1 := by omega
                have hwt : ((i : Int) + 1).toNat = i + 1 := by omega
                clear hU gU gV hsV r0 r1 hml
                go_region_law (refine step_appK rfl (.tmp 71) (.tmp 82) 28 rfl w3.heap.size 23 i0 (.agg #[.int .i64 0, .int .i64 0]) 2 16 Try.underlying28 hi hz0 hz1 hz2 rfl (by decide) (.slice (some ⟨g, 0, none⟩) n7 c7) out.length (pv out) rfl HOV.out _ 1 1 (pv [(f, t)]) rfl HVR.out (HOne.out _) HZ.out.1 HZ.out.2 HVS.out ?_; intro v9 w9 hown9 hgrow9)
                all_goals
                  have HO9 : Hid (OwP w9 w3.heap.size v9 (out ++ [(f, t)]) ∧ Below w3.heap.size w3 w9) := ⟨by unfold OwP; rw [pv_app, List.length_append]; exact hown9, HVB.out.grown hgrow9 HVS.out (fun j hj => (World.ownsRow.lt HOV.out j hj).1)⟩
                  obtain ⟨a9, n9, c9, hv9⟩ := own_sl hown9
                  subst hv9
                  clear hown9 hgrow9
                  go_wp2_with fail
                  go_roundg (n3 - (i + 1))
                  case measure => omega
                  case rel => exact ⟨i + 1, n7 + 1, out ++ [(f, t)], by go_num, Nat.le_refl _, by omega, .inr (by omega), by omega, (by show _ = _; rw [HM.out]; simp), HO9.out.1, HP3.out.symm, HO9.out.2⟩
    · have hltz : ¬ (i : Int) + 1 < (n3 : Int) := by omega
      go_wp2_with fail
      go_ret
      refine ⟨_, rfl, ?_, HB3.out.trans (HBr.out.mono HB3.out.size)⟩
      have hx := HX.out
      rw [show i = E.length - 1 by have := HN.out; omega, ← HPd.out] at hx
      rw [← hx]
      exact HO.out.rd
end Go.Proofs.Ythijbpodkklcnaa
