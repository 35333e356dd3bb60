/- The contract of the stable sort's merging. -/
import Derived.Test.YtgdeongeonhlpaaMerge1
import Derived.Deep.DeepCutAuto
namespace Go.Proofs.Ytgdeongeonhlpaa
open Go.Shelf Go.RowKit Go.Lib Go.Sort
variable {α : Type} [Inhabited α]

set_option maxHeartbeats 8000000 in
set_option maxRecDepth 1000000 in
theorem merge_step {P : Program} {k : Nat} (L : SLay P k) (enc : α → List Value) (cf : α → α → Int) (hO : SWO (ltOf cf)) (g : Nat) (cb : Array Value) (eg : ∀ args w, (callFunc g args).run P w = .ok (.enter g args) w) (blk off cap : Nat) (d0 : Array α) (w0 : World)
    (hcmp : CmpLays P g cb enc k cf blk off d0.size w0) (R : RowK enc k w0 blk off d0) (hsz0 : d0.size < 4611686018427387904) (N : Nat)
    (ih : ∀ (a m b : Nat) (d : Array α) (w : World), b - a < N → a < m → m < b → b ≤ d.size → d0.size = d.size → SWK enc k w0 blk off d w → SortedIn (ltOf cf) a m d → SortedIn (ltOf cf) m b d →
      Calls P 57 #[.slice (some ⟨blk, off, none⟩) d.size cap, .int .i64 a, .int .i64 m, .int .i64 b, .func (.func g) #[] cb] w fun e w' =>
        e = .returned (.tuple #[]) ∧ ∃ d', Hid (PermIn a b d d' ∧ SortedIn (ltOf cf) a b d') ∧ SWK enc k w0 blk off d' w')
    (a m b : Nat) (d : Array α) (w : World) (hN : b - a ≤ N) (ham : a + 1 < m) (hmb : m + 1 < b) (hb : b ≤ d.size) (hs : d0.size = d.size) (S : SWK enc k w0 blk off d w) (h1 : SortedIn (ltOf cf) a m d) (h2 : SortedIn (ltOf cf) m b d) :
    Calls P 57 #[.slice (some ⟨blk, off, none⟩) d.size cap, .int .i64 a, .int .i64 m, .int .i64 b, .func (.func g) #[] cb] w fun e w' =>
      e = .returned (.tuple #[]) ∧ ∃ d', Hid (PermIn a b d d' ∧ SortedIn (ltOf cf) a b d') ∧ SWK enc k w0 blk off d' w' := by
  have mixed := L.mixed; have aE := L.aE; have zE := L.zE; have t0 := L.t0; have a0 := L.a0; have z0 := L.z0; have v0 := L.v0; have t1 := L.t1; have a1 := L.a1; have z1 := L.z1; have v1 := L.v1; have t2 := L.t2; have a2 := L.a2; have z2 := L.z2; have v2 := L.v2; have t3 := L.t3; have a3 := L.a3; have z3 := L.z3; have v3 := L.v3; have t4 := L.t4; have a4 := L.a4; have z4 := L.z4; have v4 := L.v4; have t5 := L.t5; have a5 := L.a5; have z5 := L.z5; have v5 := L.v5
  have eM : ∀ args w, (callFunc 57 args).run P w = .ok (.enter 57 args) w := enters_of L.fM (by kernel_rfl) rfl
  have eR : ∀ args w, (callFunc 58 args).run P w = .ok (.enter 58 args) w := enters_of L.fR (by kernel_rfl) rfl
  have hsz : d.size < 4611686018427387904 := by omega
  have S0 : Aside (SWK enc k w0 blk off d w) := S
  have HC : Aside _ := hcmp
  have IH : Aside _ := ih
  have HD : Hid (d0.size = d.size) := hs
  have H1 : Hid _ := h1
  have H2 : Hid _ := h2
  have HO : Hid _ := hO
  have az0 : ¬ (m : Int) - (a : Int) = 1 := by omega
  have az : ((m : Int) - (a : Int) == 1) = false := by simpa using az0
  have bz0 : ¬ (b : Int) - (m : Int) = 1 := by omega
  have bz : ((b : Int) - (m : Int) == 1) = false := by simpa using bz0
  obtain ⟨mid, hmid⟩ : ∃ x, x = (a + b) / 2 := ⟨_, rfl⟩
  have cz : ((a : Int) + (b : Int)) / 2 = (mid : Int) := by omega
  have hmid1 : a < mid := by omega
  have hmid2 : mid < b := by omega
  obtain ⟨n, hn⟩ : ∃ n, n = mid + m := ⟨_, rfl⟩
  have nz : (mid : Int) + (m : Int) = (n : Int) := by omega
  have rn : IntKind.i64.wrap (n : Int) = (n : Int) := by rw [IntKind.wrap_i64]; omega
  obtain ⟨p, hp⟩ : ∃ p, p = n - 1 := ⟨_, rfl⟩
  have pz : (n : Int) - 1 = (p : Int) := by omega
  have HMID : Hid (mid = (a + b) / 2) := hmid
  have HN2 : Hid (n = mid + m ∧ p = n - 1) := ⟨hn, hp⟩
  have nn1 : n ≤ mid + m := by omega
  have nn2 : mid + m ≤ n := by omega
  clear S hcmp hs h1 h2 hO ih az0 bz0 hmid hn hp
  go_enter L.fM, Try.ntmps57
  go_upto_if 140 with fail
  go_cut [20, 21] (fun s20 s21 wx => ∃ (s r : Nat), s20 = .int .i64 s ∧ s21 = .int .i64 r ∧ a ≤ s ∧ s ≤ r ∧ r ≤ m ∧ n ≤ s + b ∧ r ≤ mid ∧ wx = w ∧ Hid ((s = a ∨ n - s = b) ∧ (r = m ∨ n - r = m)))
  case first =>
    as_aux_lemma =>
      by_cases hmm : mid < m
      · have hmz : (mid : Int) < (m : Int) := by omega
        obtain ⟨s0, hs0⟩ : ∃ s, s = n - b := ⟨_, rfl⟩
        have sz : (n : Int) - (b : Int) = (s0 : Int) := by omega
        have HS0 : Hid (s0 = n - b) := hs0
        clear hs0
        go_wp2_with fail
        go_meet
        case rel =>
          have e1 := HS0.out
          have e2 := HMID.out
          exact ⟨s0, mid, rfl, rfl, by omega, by omega, by omega, by omega, by omega, rfl, .inr (by omega), .inr (by omega)⟩
      · have hmz : ¬ (mid : Int) < (m : Int) := by omega
        go_wp2_with fail
        go_meet
        case rel =>
          have e2 := HMID.out
          exact ⟨a, m, rfl, rfl, Nat.le_refl _, by omega, Nat.le_refl _, by omega, by omega, rfl, .inl rfl, .inl rfl⟩
  case rest =>
    obtain ⟨s, r, rfl, rfl, q1, q2, q3, q4, q5, rfl, HQ⟩ := hcut
    go_wp2_with fail
    go_loopg [20, 21] (b - a) (fun kx s20 s21 wr => ∃ (s r : Nat), s20 = .int .i64 s ∧ s21 = .int .i64 r ∧ a ≤ s ∧ s ≤ r ∧ r ≤ m ∧ n ≤ s + b ∧ r ≤ mid ∧ r - s ≤ kx ∧ Aside (SWK enc k w0 blk off d wr) ∧ Hid ((s = a ∨ n - s = b ∨ ltOf cf d[n - s]! d[s - 1]! = false) ∧ (r = m ∨ n - r = m ∨ ltOf cf d[n - r - 1]! d[r]! = true)))
    case atStart => exact ⟨s, r, rfl, rfl, q1, q2, q3, q4, q5, by omega, S0, HQ.out.1.elim .inl (fun h => .inr (.inl h)), HQ.out.2.elim .inl (fun h => .inr (.inl h))⟩
    case round =>
      clear S0 HQ q1 q2 q3 q4 q5 s r
      obtain ⟨s, r, rfl, rfl, q1, q2, q3, q4, q5, hkx, S1, HR⟩ := hrel
      by_cases hlt : s < r
      · have hltz : (s : Int) < (r : Int) := by omega
        obtain ⟨c, hh⟩ : ∃ h, h = (s + r) / 2 := ⟨_, rfl⟩
        have hz : ((s : Int) + (r : Int)) / 2 = (c : Int) := by omega
        have g1 : s ≤ c := by omega
        have g3 : c < r := by omega
        obtain ⟨q, hq⟩ : ∃ q, q = p - c := ⟨_, rfl⟩
        have hpn := HN2.out.2
        have qz : (p : Int) - (c : Int) = (q : Int) := by omega
        have g4 : (q : Int) < (d.size : Int) := by omega
        have g5 : (c : Int) < (d.size : Int) := by omega
        have HQ : Hid (q = n - c - 1) := by show q = n - c - 1; omega
        have rq : IntKind.i64.wrap (q : Int) = (q : Int) := by rw [IntKind.wrap_i64]; omega
        clear hh hq hpn
        cases hL : ltOf cf d[q]! d[c]! with
        | false =>
          as_aux_lemma =>
            obtain ⟨x1, hx1⟩ : ∃ x, x = d[q]! := ⟨_, rfl⟩
            obtain ⟨y1, hy1⟩ : ∃ x, x = d[c]! := ⟨_, rfl⟩
            have l1a := S1.out.ld R (by first | omega | (have := HD.out; omega)) P q (by omega)
            have l1b := S1.out.ld R (by first | omega | (have := HD.out; omega)) P c (by omega)
            rw [← hx1] at l1a
            rw [← hy1] at l1b
            have hc1 := S1.out.cmp HC.out (by first | omega | (have := HD.out; omega)) x1 y1
            have hv1 : ¬ cf x1 y1 < 0 := by rw [hx1, hy1]; exact of_decide_eq_false hL
            have hd1 : decide (cf x1 y1 < 0) = false := decide_eq_false hv1
            have HL : Hid _ := hL
            clear hx1 hy1 hL
            go_wp2_with fail
            go_quiet_grown (first | (go_at_fn g; refine Calls.grown_of (hc1 _ _)))
            have S2 : Aside (SWK enc k w0 blk off d (grow (wr.drewN nq) osq)) := S1.out.grown nq osq
            clear l1a l1b hc1 S1
            generalize grow (wr.drewN nq) osq = w2 at S2 ⊢
            clear nq osq
            go_wp2_with fail
            go_roundg (r - (c + 1))
            case measure => omega
            case rel =>
              have e1 := HQ.out
              have e2 := HL.out
              rw [show q = n - (c + 1) by omega] at e2
              exact ⟨c + 1, r, by go_num, rfl, by omega, by omega, q3, by omega, q5, Nat.le_refl _, S2, .inr (.inr e2), HR.out.2⟩
        | true =>
          as_aux_lemma =>
            obtain ⟨x1, hx1⟩ : ∃ x, x = d[q]! := ⟨_, rfl⟩
            obtain ⟨y1, hy1⟩ : ∃ x, x = d[c]! := ⟨_, rfl⟩
            have l1a := S1.out.ld R (by first | omega | (have := HD.out; omega)) P q (by omega)
            have l1b := S1.out.ld R (by first | omega | (have := HD.out; omega)) P c (by omega)
            rw [← hx1] at l1a
            rw [← hy1] at l1b
            have hc1 := S1.out.cmp HC.out (by first | omega | (have := HD.out; omega)) x1 y1
            have hv1 : cf x1 y1 < 0 := by rw [hx1, hy1]; exact of_decide_eq_true hL
            have hd1 : decide (cf x1 y1 < 0) = true := decide_eq_true hv1
            have HL : Hid _ := hL
            clear hx1 hy1 hL
            go_wp2_with fail
            go_quiet_grown (first | (go_at_fn g; refine Calls.grown_of (hc1 _ _)))
            have S2 : Aside (SWK enc k w0 blk off d (grow (wr.drewN nq) osq)) := S1.out.grown nq osq
            clear l1a l1b hc1 S1
            generalize grow (wr.drewN nq) osq = w2 at S2 ⊢
            clear nq osq
            go_wp2_with fail
            go_roundg (c - s)
            case measure => omega
            case rel =>
              have e1 := HQ.out
              have e2 := HL.out
              rw [e1] at e2
              exact ⟨s, c, rfl, rfl, q1, by omega, by omega, q4, by omega, Nat.le_refl _, S2, HR.out.1, .inr (.inr e2)⟩
      · have hnot : ¬ (s : Int) < (r : Int) := by omega
        obtain rfl : s = r := by omega
        obtain ⟨e, he⟩ : ∃ e, e = n - s := ⟨_, rfl⟩
        have ez : (n : Int) - (s : Int) = (e : Int) := by omega
        have e1 : m ≤ e := by omega
        have e2 : e ≤ b := by omega
        have e3 : s + (e - m) = mid := by omega
        have HE : Hid (e = n - s) := he
        have HE3 : Hid (s + (e - m) = mid) := e3
        have hx : s = a ∨ e = b ∨ ltOf cf d[e]! d[s - 1]! = false := by have := HR.out.1; rwa [← he] at this
        have hy : s = m ∨ e = m ∨ ltOf cf d[e - 1]! d[s]! = true := by have := HR.out.2; rwa [← he] at this
        have HX : Hid _ := hx
        have HY : Hid _ := hy
        have i1 : (mid < e) ↔ s < m := by omega
        have i2 : (s < mid) ↔ m < e := by omega
        clear he hx hy HR nz cz pz rn nn1 nn2 e3
        have I1 : Hid _ := i1
        have I2 : Hid _ := i2
        clear i1 i2
        obtain ⟨bR, hbR⟩ : ∃ x, x = decide (s < m ∧ m < e) := ⟨_, rfl⟩
        have HbR : Hid (bR = decide (s < m ∧ m < e)) := hbR
        clear hbR
        go_upto_region 39 with fail
        go_cut [185] (fun t wx => t = .bool bR ∧ wx = wr)
        case first =>
          as_aux_lemma =>
            by_cases c1 : s < m
            · have c1z : (s : Int) < (m : Int) := by omega
              by_cases c2 : m < e
              · have c2z : (m : Int) < (e : Int) := by omega
                go_wp2_with fail
                go_meet
                case rel => exact ⟨by rw [HbR.out, decide_eq_true (⟨c1, c2⟩ : s < m ∧ m < e)], rfl⟩
              · have c2z : ¬ (m : Int) < (e : Int) := by omega
                go_wp2_with fail
                go_meet
                case rel => exact ⟨by rw [HbR.out, decide_eq_false (fun h => c2 h.2)], rfl⟩
            · have c1z : ¬ (s : Int) < (m : Int) := by omega
              go_wp2_with fail
              go_meet
              case rel => exact ⟨by rw [HbR.out, decide_eq_false (fun h => c1 h.1)], rfl⟩
        case rest =>
        obtain ⟨rfl, rfl⟩ := hcut
        go_upto_if 185 with fail
        go_cut [] (fun wx => ∃ d1, d1.size = d.size ∧ Aside (SWK enc k w0 blk off d1 wx) ∧ Hid (Rot a b s m e d d1))
        case first =>
          as_aux_lemma =>
            cases bR with
            | true =>
              have c : s < m ∧ m < e := of_decide_eq_true HbR.out.symm
              have hrt := rotate_any L enc g cb blk off cap s m e a b d0 d w0 _ R HD.out S1.out q1 c.1 c.2 e2 hb hsz
              clear S1 c
              go_wp2_with (go_at_fn 58; refine hrt.mono ?_; rintro e w' ⟨rfl, d1, HRt, S2⟩)
              go_meet
              case rel => exact ⟨d1, HRt.out.perm.1, S2, HRt⟩
            | false =>
              have HCc : Hid (¬ (s < m ∧ m < e)) := of_decide_eq_false HbR.out.symm
              go_wp2_with fail
              go_meet
              case rel => exact ⟨d, rfl, S1, Rot.none _ _ _ _ _ _ (by have := HCc.out; omega) (by omega) (by omega)⟩
        case rest =>
        clear S1
        obtain ⟨d1, hd1, S1, HRt⟩ := hcut
        have hsp := rot_split HO.out H1.out H2.out HRt.out q1 q3 e1 e2 HX.out HY.out
        rw [HE3.out] at hsp
        have HSP : Hid _ := hsp
        clear hsp HX HY
        obtain ⟨bL, hbL⟩ : ∃ x, x = decide (a < s ∧ s < mid) := ⟨_, rfl⟩
        have HbL : Hid (bL = decide (a < s ∧ s < mid)) := hbL
        clear hbL
        go_upto_region 41 with fail
        go_cut [199] (fun t wx => t = .bool bL ∧ wx = wc)
        case first =>
          as_aux_lemma =>
            by_cases c1 : a < s
            · have c1z : (a : Int) < (s : Int) := by omega
              by_cases c2 : s < mid
              · have c2z : (s : Int) < (mid : Int) := by omega
                go_wp2_with fail
                go_meet
                case rel => exact ⟨by rw [HbL.out, decide_eq_true (⟨c1, c2⟩ : a < s ∧ s < mid)], rfl⟩
              · have c2z : ¬ (s : Int) < (mid : Int) := by omega
                go_wp2_with fail
                go_meet
                case rel => exact ⟨by rw [HbL.out, decide_eq_false (fun h => c2 h.2)], rfl⟩
            · have c1z : ¬ (a : Int) < (s : Int) := by omega
              go_wp2_with fail
              go_meet
              case rel => exact ⟨by rw [HbL.out, decide_eq_false (fun h => c1 h.1)], rfl⟩
        case rest =>
        obtain ⟨rfl, rfl⟩ := hcut
        go_upto_if 199 with fail
        go_cut [] (fun wx => ∃ d2, d2.size = d.size ∧ Aside (SWK enc k w0 blk off d2 wx) ∧ Hid (PermIn a mid d1 d2 ∧ SortedIn (ltOf cf) a mid d2))
        case first =>
          as_aux_lemma =>
            cases bL with
            | true =>
              have c : a < s ∧ s < mid := of_decide_eq_true HbL.out.symm
              have hmg := IH.out a s mid d1 _ (by omega) c.1 c.2 (by omega) (by rw [hd1]; exact HD.out) S1.out HSP.out.1 HSP.out.2.1
              rw [hd1] at hmg
              have HD1 : Hid (d1.size = d.size) := hd1
              clear S1 hd1 c
              go_wp2_with (go_at_fn 57; refine hmg.mono ?_; rintro e w' ⟨rfl, d2, HPt, S2⟩)
              go_meet
              case rel => exact ⟨d2, HPt.out.1.1.trans HD1.out, S2, HPt⟩
            | false =>
              have HCc : Hid (¬ (a < s ∧ s < mid)) := of_decide_eq_false HbL.out.symm
              go_wp2_with fail
              go_meet
              case rel =>
                refine ⟨d1, hd1, S1, permIn_refl _ _ _, ?_⟩
                have hc := HCc.out
                by_cases hsa : a = s
                · have hq := HSP.out.2.1
                  rwa [← hsa] at hq
                · have hq := HSP.out.1
                  rwa [show s = mid by have := HE3.out; omega] at hq
        case rest =>
        clear S1
        obtain ⟨d2, hd2, S1, HL2⟩ := hcut
        obtain ⟨bQ, hbQ⟩ : ∃ x, x = decide (mid < e ∧ e < b) := ⟨_, rfl⟩
        have HbQ : Hid (bQ = decide (mid < e ∧ e < b)) := hbQ
        clear hbQ
        go_upto_region 43 with fail
        go_cut [213] (fun t wx => t = .bool bQ ∧ wx = wc)
        case first =>
          as_aux_lemma =>
            by_cases c1 : mid < e
            · have c1z : (mid : Int) < (e : Int) := by omega
              by_cases c2 : e < b
              · have c2z : (e : Int) < (b : Int) := by omega
                go_wp2_with fail
                go_meet
                case rel => exact ⟨by rw [HbQ.out, decide_eq_true (⟨c1, c2⟩ : mid < e ∧ e < b)], rfl⟩
              · have c2z : ¬ (e : Int) < (b : Int) := by omega
                go_wp2_with fail
                go_meet
                case rel => exact ⟨by rw [HbQ.out, decide_eq_false (fun h => c2 h.2)], rfl⟩
            · have c1z : ¬ (mid : Int) < (e : Int) := by omega
              go_wp2_with fail
              go_meet
              case rel => exact ⟨by rw [HbQ.out, decide_eq_false (fun h => c1 h.1)], rfl⟩
        case rest =>
        obtain ⟨rfl, rfl⟩ := hcut
        go_upto_if 213 with fail
        have hk3 : Hid (SortedIn (ltOf cf) mid e d2 ∧ SortedIn (ltOf cf) e b d2) := ⟨SortedIn.kept HSP.out.2.2.1 HL2.out.1 (.inr (Nat.le_refl _)), SortedIn.kept HSP.out.2.2.2.1 HL2.out.1 (.inr (by have := HE3.out; omega))⟩
        have hfin : ∀ d3, PermIn mid b d2 d3 → SortedIn (ltOf cf) mid b d3 → Hid (PermIn a b d d3 ∧ SortedIn (ltOf cf) a b d3) := fun d3 p3 s3 => by
          have hf := halves HL2.out.1 HL2.out.2 p3 s3 (by omega) (by omega) (by omega) HSP.out.2.2.2.2
          exact ⟨permIn_trans _ _ _ _ _ HRt.out.perm hf.2, hf.1⟩
        have HF : Aside _ := hfin
        clear hfin
        cases bQ with
        | true =>
          have c : mid < e ∧ e < b := of_decide_eq_true HbQ.out.symm
          have hmg := IH.out mid e b d2 _ (by omega) c.1 c.2 (by omega) (by rw [hd2]; exact HD.out) S1.out hk3.out.1 hk3.out.2
          rw [hd2] at hmg
          clear S1 hd2 hd1 c
          go_wp2_with (go_at_fn 57; refine hmg.mono ?_; rintro e w' ⟨rfl, d3, HPt, S2⟩)
          go_end0
          exact ⟨rfl, d3, HF.out d3 HPt.out.1 HPt.out.2, S2⟩
        | false =>
          have HCc : Hid (¬ (mid < e ∧ e < b)) := of_decide_eq_false HbQ.out.symm
          go_wp2_with fail
          go_end0
          have hc := HCc.out
          refine ⟨rfl, d2, HF.out d2 (permIn_refl _ _ _) ?_, S1.out⟩
          by_cases hsa : e = b
          · have hq := hk3.out.1
            rwa [hsa] at hq
          · have hq := hk3.out.2
            rwa [show e = mid by have := HE3.out; omega] at hq

theorem merge_any {P : Program} {k : Nat} (L : SLay P k) (enc : α → List Value) (cf : α → α → Int) (hO : SWO (ltOf cf)) (g : Nat) (cb : Array Value) (eg : ∀ args w, (callFunc g args).run P w = .ok (.enter g args) w) (blk off cap : Nat) (d0 : Array α) (w0 : World)
    (hcmp : CmpLays P g cb enc k cf blk off d0.size w0) (R : RowK enc k w0 blk off d0) (hsz0 : d0.size < 4611686018427387904) :
    ∀ (N a m b : Nat) (d : Array α) (w : World), b - a < N → a < m → m < b → b ≤ d.size → d0.size = d.size → SWK enc k w0 blk off d w → SortedIn (ltOf cf) a m d → SortedIn (ltOf cf) m b d →
      Calls P 57 #[.slice (some ⟨blk, off, none⟩) d.size cap, .int .i64 a, .int .i64 m, .int .i64 b, .func (.func g) #[] cb] w fun e w' =>
        e = .returned (.tuple #[]) ∧ ∃ d', Hid (PermIn a b d d' ∧ SortedIn (ltOf cf) a b d') ∧ SWK enc k w0 blk off d' w'
  | 0, a, m, b, d, w, h, _, _, _, _, _, _, _ => by omega
  | N + 1, a, m, b, d, w, h, ham, hmb, hb, hs, S, h1, h2 => by
    by_cases c1 : m = a + 1
    · exact merge_up L enc cf hO g cb eg blk off cap a m b d0 d w0 w hcmp R hs S c1 hmb hb (by omega) (by rw [← c1]; exact h2)
    · by_cases c2 : b = m + 1
      · exact merge_down L enc cf hO g cb eg blk off cap a m b d0 d w0 w hcmp R hs S (by omega) c2 hb (by omega) h1
      · exact merge_step L enc cf hO g cb eg blk off cap d0 w0 hcmp R hsz0 N (fun a m b d w k0 k1 k2 k3 k4 k5 k6 k7 => merge_any L enc cf hO g cb eg blk off cap d0 w0 hcmp R hsz0 N a m b d w k0 k1 k2 k3 k4 k5 k6 k7) a m b d w (by omega) (by omega) (by omega) hb hs S h1 h2
end Go.Proofs.Ytgdeongeonhlpaa
