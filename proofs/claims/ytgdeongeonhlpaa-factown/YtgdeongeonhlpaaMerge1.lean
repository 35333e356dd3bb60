/- The contract of the stable sort's merging, where one of the two rows is one element. -/
import Derived.Test.YtgdeongeonhlpaaRot
namespace Go.Proofs.Ytgdeongeonhlpaa
open Go.Shelf Go.RowKit Go.Lib Go.Sort
variable {α : Type} [Inhabited α]

set_option maxHeartbeats 4000000 in
set_option maxRecDepth 1000000 in
theorem merge_up {P : Program} {k : Nat} (L : SLay P k) (enc : α → List Value) (cf : α → α → Int) (hO : SWO (ltOf cf)) (g : Nat) (cb : Array Value) (eg : ∀ args w, (callFunc g args).run P w = .ok (.enter g args) w) (blk off cap a m b : Nat) (d0 d : Array α) (w0 w : World)
    (hcmp : CmpLays P g cb enc k cf blk off d0.size w0) (R : RowK enc k w0 blk off d0) (hs : d0.size = d.size) (S : SWK enc k w0 blk off d w) (hm : m = a + 1) (hmb : m < b) (hb : b ≤ d.size) (hsz : d.size < 4611686018427387904) (h2 : SortedIn (ltOf cf) (a + 1) b d) :
    Calls P 57 #[.slice (some ⟨blk, off, none⟩) d.size cap, .int .i64 a, .int .i64 m, .int .i64 b, .func (.func g) #[] cb] w fun e w' =>
      e = .returned (.tuple #[]) ∧ ∃ d', Hid (PermIn a b d d' ∧ SortedIn (ltOf cf) a b d') ∧ SWK enc k w0 blk off d' w' := by
  have mixed := L.mixed; have aE := L.aE; have zE := L.zE; have t0 := L.t0; have a0 := L.a0; have z0 := L.z0; have v0 := L.v0; have t1 := L.t1; have a1 := L.a1; have z1 := L.z1; have v1 := L.v1; have t2 := L.t2; have a2 := L.a2; have z2 := L.z2; have v2 := L.v2; have t3 := L.t3; have a3 := L.a3; have z3 := L.z3; have v3 := L.v3; have t4 := L.t4; have a4 := L.a4; have z4 := L.z4; have v4 := L.v4; have t5 := L.t5; have a5 := L.a5; have z5 := L.z5; have v5 := L.v5
  have S0 : Aside (SWK enc k w0 blk off d w) := S
  have HC : Aside _ := hcmp
  have HD : Hid (d0.size = d.size) := hs
  have H2 : Hid _ := h2
  have HO : Hid _ := hO
  have HM : Hid (m = a + 1) := hm
  have mz : (m : Int) - (a : Int) = 1 := by omega
  clear S hcmp hs h2 hO
  have ham : a < m := by omega
  have hm1 : m ≤ a + 1 := by omega
  clear hm
  go_enter L.fM, Try.ntmps57
  go_wp2_with fail
  go_loopg [10, 11] (b - a) (fun kx s10 s11 wr => ∃ (i j : Nat), s10 = .int .i64 i ∧ s11 = .int .i64 j ∧ m ≤ i ∧ i ≤ j ∧ j ≤ b ∧ j - i ≤ kx ∧ Aside (SWK enc k w0 blk off d wr) ∧ Hid ((i = m ∨ ltOf cf d[i - 1]! d[a]! = true) ∧ (j = b ∨ ltOf cf d[j]! d[a]! = false)))
  case atStart => exact ⟨m, b, rfl, rfl, Nat.le_refl _, by omega, Nat.le_refl _, by omega, S0, .inl rfl, .inl rfl⟩
  case round =>
    clear S0 mz
    obtain ⟨i, j, rfl, rfl, hmi, hij, hjb, hkx, S1, HR⟩ := hrel
    by_cases hlt : i < j
    · have hltz : (i : Int) < (j : Int) := by omega
      obtain ⟨h, hh⟩ : ∃ h, h = (i + j) / 2 := ⟨_, rfl⟩
      have hz : ((i : Int) + (j : Int)) / 2 = (h : Int) := by omega
      have h1 : i ≤ h := by omega
      have h3 : h < j := by omega
      have h4 : (h : Int) < (d.size : Int) := by omega
      have h5 : (a : Int) < (d.size : Int) := by omega
      clear hh
      cases hL : ltOf cf d[h]! d[a]! with
      | true =>
        obtain ⟨x1, hx1⟩ : ∃ x, x = d[h]! := ⟨_, rfl⟩
        obtain ⟨y1, hy1⟩ : ∃ x, x = d[a]! := ⟨_, rfl⟩
        have l1a := S1.out.ld R (by first | omega | (have := HD.out; omega)) P (h) (by omega)
        have l1b := S1.out.ld R (by first | omega | (have := HD.out; omega)) P (a) (by omega)
        rw [← hx1] at l1a
        rw [← hy1] at l1b
        have hc1 := S1.out.cmp HC.out (by first | omega | (have := HD.out; omega)) x1 y1
        have hv1 : cf x1 y1 < 0 := by rw [hx1, hy1]; exact of_decide_eq_true hL
        have hd1 : decide (cf x1 y1 < 0) = true := decide_eq_true hv1
        have HL : Hid _ := hL
        clear hx1 hy1 hL
        go_wp2_with fail
        go_quiet_grown (first | (go_at_fn g; refine Calls.grown_of (hc1 _ _)))
        have S2 : Aside (SWK enc k w0 blk off d (grow (wr.drewN nq) osq)) := S1.out.grown nq osq
        clear l1a l1b hc1 S1
        generalize grow (wr.drewN nq) osq = w2 at S2 ⊢
        clear nq osq
        go_wp2_with fail
        go_roundg (j - (h + 1))
        case measure => omega
        case rel => exact ⟨h + 1, j, by go_num, rfl, by omega, by omega, hjb, Nat.le_refl _, S2, .inr HL.out, HR.out.2⟩
      | false =>
        obtain ⟨x1, hx1⟩ : ∃ x, x = d[h]! := ⟨_, rfl⟩
        obtain ⟨y1, hy1⟩ : ∃ x, x = d[a]! := ⟨_, rfl⟩
        have l1a := S1.out.ld R (by first | omega | (have := HD.out; omega)) P (h) (by omega)
        have l1b := S1.out.ld R (by first | omega | (have := HD.out; omega)) P (a) (by omega)
        rw [← hx1] at l1a
        rw [← hy1] at l1b
        have hc1 := S1.out.cmp HC.out (by first | omega | (have := HD.out; omega)) x1 y1
        have hv1 : ¬ cf x1 y1 < 0 := by rw [hx1, hy1]; exact of_decide_eq_false hL
        have hd1 : decide (cf x1 y1 < 0) = false := decide_eq_false hv1
        have HL : Hid _ := hL
        clear hx1 hy1 hL
        go_wp2_with fail
        go_quiet_grown (first | (go_at_fn g; refine Calls.grown_of (hc1 _ _)))
        have S2 : Aside (SWK enc k w0 blk off d (grow (wr.drewN nq) osq)) := S1.out.grown nq osq
        clear l1a l1b hc1 S1
        generalize grow (wr.drewN nq) osq = w2 at S2 ⊢
        clear nq osq
        go_wp2_with fail
        go_roundg (h - i)
        case measure => omega
        case rel => exact ⟨i, h, rfl, rfl, hmi, h1, by omega, Nat.le_refl _, S2, HR.out.1, .inr HL.out⟩
    · have hnot : ¬ (i : Int) < (j : Int) := by omega
      obtain rfl : i = j := by omega
      go_wp2_with fail
      go_loopg [13] (i - a) (fun kx s13 wr => ∃ (x : Nat) (dk : Array α), s13 = .int .i64 x ∧ a ≤ x ∧ x + 1 ≤ i ∧ i - x ≤ kx ∧ dk.size = d.size ∧ Aside (SWK enc k w0 blk off dk wr) ∧ Hid (Rot a b a m (x + 1) d dk))
      case atStart => exact ⟨a, d, rfl, Nat.le_refl _, by omega, Nat.le_refl _, rfl, S1, Rot.none _ _ _ _ _ _ (.inr HM.out) (by omega) (by omega)⟩
      case round =>
        clear S1
        obtain ⟨x, dk, rfl, hax, hxi, hkx2, hds, S1, HT⟩ := hrel
        by_cases hxl : x + 1 < i
        · have c1 : (x : Int) < (i : Int) - 1 := by omega
          have c2 : (x : Int) < (d.size : Int) := by omega
          have c3 : (x : Int) + 1 < (d.size : Int) := by omega
          have c4 : ((x : Int) + 1).toNat = x + 1 := by omega
          have c5 : (0 : Int) ≤ (x : Int) + 1 := by omega
          have S2 : Aside (SWK enc k w0 blk off (swp dk (x) (x + 1)) ((wr.drew.setCells blk (off + (x) * k) (enc dk[x + 1]!)).setCells blk (off + (x + 1) * k) (enc dk[x]!))) := S1.out.swapped R (x) (x + 1) (by omega) (by omega)
          have la := S1.out.ld1 R (by first | omega | (have := HD.out; omega)) P (x) (by omega)
          have lb := S1.out.ld1 R (by first | omega | (have := HD.out; omega)) P (x + 1) (by omega)
          have sa := S1.out.st1 R (by first | omega | (have := HD.out; omega)) P (x) (by omega) dk[x + 1]!
          have sb := S1.out.st2 R (by first | omega | (have := HD.out; omega)) P (x) (x + 1) (by omega) (by omega) dk[x + 1]! dk[x]!
          have na : (enc dk[x]!).length = k := R.hk _
          have nb : (enc dk[x + 1]!).length = k := R.hk _
          generalize enc dk[x]! = cI at S2 la sb na
          generalize enc dk[x + 1]! = cJ at S2 lb sa sb nb
          clear S1
          go_wp2_with fail
          go_big_region_o
          clear la lb sa sb
          generalize (wr.drew.setCells blk (off + (x) * k) cJ).setCells blk (off + (x + 1) * k) cI = w2 at S2 ⊢
          go_wp2_with fail
          go_roundg (i - (x + 1))
          case measure => omega
          case rel =>
            have hT := HT.out
            rw [HM.out] at hT
            exact ⟨x + 1, swp dk x (x + 1), by go_num, by omega, by omega, Nat.le_refl _, by rw [size_swp]; exact hds, S2, by rw [HM.out]; exact hT.up (Nat.le_refl _) hax (by omega) hb⟩
        · have c1 : ¬ (x : Int) < (i : Int) - 1 := by omega
          have e : x + 1 = i := by omega
          go_wp2_with fail
          (try simp only [Exit.inBlock, Exit.then]); refine bodyPost_ret (results_none rfl _ _ _) rfl ?_
          have hT := HT.out
          rw [HM.out, e] at hT
          obtain ⟨q1, q2⟩ := HR.out
          refine ⟨rfl, dk, ⟨hT.perm, one_up HO.out H2.out hT (by omega) hjb (by rcases q1 with q1 | q1; exact .inl (by omega); exact .inr q1) q2⟩, S1.out⟩

set_option maxHeartbeats 4000000 in
set_option maxRecDepth 1000000 in
theorem merge_down {P : Program} {k : Nat} (L : SLay P k) (enc : α → List Value) (cf : α → α → Int) (hO : SWO (ltOf cf)) (g : Nat) (cb : Array Value) (eg : ∀ args w, (callFunc g args).run P w = .ok (.enter g args) w) (blk off cap a m b : Nat) (d0 d : Array α) (w0 w : World)
    (hcmp : CmpLays P g cb enc k cf blk off d0.size w0) (R : RowK enc k w0 blk off d0) (hs : d0.size = d.size) (S : SWK enc k w0 blk off d w) (ham : a + 1 < m) (hm : b = m + 1) (hb : b ≤ d.size) (hsz : d.size < 4611686018427387904) (h1 : SortedIn (ltOf cf) a m d) :
    Calls P 57 #[.slice (some ⟨blk, off, none⟩) d.size cap, .int .i64 a, .int .i64 m, .int .i64 b, .func (.func g) #[] cb] w fun e w' =>
      e = .returned (.tuple #[]) ∧ ∃ d', Hid (PermIn a b d d' ∧ SortedIn (ltOf cf) a b d') ∧ SWK enc k w0 blk off d' w' := by
  have mixed := L.mixed; have aE := L.aE; have zE := L.zE; have t0 := L.t0; have a0 := L.a0; have z0 := L.z0; have v0 := L.v0; have t1 := L.t1; have a1 := L.a1; have z1 := L.z1; have v1 := L.v1; have t2 := L.t2; have a2 := L.a2; have z2 := L.z2; have v2 := L.v2; have t3 := L.t3; have a3 := L.a3; have z3 := L.z3; have v3 := L.v3; have t4 := L.t4; have a4 := L.a4; have z4 := L.z4; have v4 := L.v4; have t5 := L.t5; have a5 := L.a5; have z5 := L.z5; have v5 := L.v5
  have S0 : Aside (SWK enc k w0 blk off d w) := S
  have HC : Aside _ := hcmp
  have HD : Hid (d0.size = d.size) := hs
  have H1 : Hid _ := h1
  have HO : Hid _ := hO
  have HM : Hid (b = m + 1) := hm
  have mz : (b : Int) - (m : Int) = 1 := by omega
  have az0 : ¬ (m : Int) - (a : Int) = 1 := by omega
  have az : ((m : Int) - (a : Int) == 1) = false := by simpa using az0
  clear az0
  have hmb : m < b := by omega
  clear S hcmp hs h1 hO hm
  go_enter L.fM, Try.ntmps57
  go_wp2_with fail
  go_loopg [14, 15] (b - a) (fun kx s10 s11 wr => ∃ (i j : Nat), s10 = .int .i64 i ∧ s11 = .int .i64 j ∧ a ≤ i ∧ i ≤ j ∧ j ≤ m ∧ j - i ≤ kx ∧ Aside (SWK enc k w0 blk off d wr) ∧ Hid ((i = a ∨ ltOf cf d[m]! d[i - 1]! = false) ∧ (j = m ∨ ltOf cf d[m]! d[j]! = true)))
  case atStart => exact ⟨a, m, rfl, rfl, Nat.le_refl _, by omega, Nat.le_refl _, by omega, S0, .inl rfl, .inl rfl⟩
  case round =>
    clear S0 mz az
    obtain ⟨i, j, rfl, rfl, hai, hij, hjm, hkx, S1, HR⟩ := hrel
    by_cases hlt : i < j
    · have hltz : (i : Int) < (j : Int) := by omega
      obtain ⟨h, hh⟩ : ∃ h, h = (i + j) / 2 := ⟨_, rfl⟩
      have hz : ((i : Int) + (j : Int)) / 2 = (h : Int) := by omega
      have h1 : i ≤ h := by omega
      have h3 : h < j := by omega
      have h4 : (h : Int) < (d.size : Int) := by omega
      have h5 : (m : Int) < (d.size : Int) := by omega
      clear hh
      cases hL : ltOf cf d[m]! d[h]! with
      | false =>
        obtain ⟨x1, hx1⟩ : ∃ x, x = d[m]! := ⟨_, rfl⟩
        obtain ⟨y1, hy1⟩ : ∃ x, x = d[h]! := ⟨_, rfl⟩
        have l1a := S1.out.ld R (by first | omega | (have := HD.out; omega)) P (m) (by omega)
        have l1b := S1.out.ld R (by first | omega | (have := HD.out; omega)) P (h) (by omega)
        rw [← hx1] at l1a
        rw [← hy1] at l1b
        have hc1 := S1.out.cmp HC.out (by first | omega | (have := HD.out; omega)) x1 y1
        have hv1 : ¬ cf x1 y1 < 0 := by rw [hx1, hy1]; exact of_decide_eq_false hL
        have hd1 : decide (cf x1 y1 < 0) = false := decide_eq_false hv1
        have HL : Hid _ := hL
        clear hx1 hy1 hL
        go_wp2_with fail
        go_quiet_grown (first | (go_at_fn g; refine Calls.grown_of (hc1 _ _)))
        have S2 : Aside (SWK enc k w0 blk off d (grow (wr.drewN nq) osq)) := S1.out.grown nq osq
        clear l1a l1b hc1 S1
        generalize grow (wr.drewN nq) osq = w2 at S2 ⊢
        clear nq osq
        go_wp2_with fail
        go_roundg (j - (h + 1))
        case measure => omega
        case rel => exact ⟨h + 1, j, by go_num, rfl, by omega, by omega, hjm, Nat.le_refl _, S2, .inr HL.out, HR.out.2⟩
      | true =>
        obtain ⟨x1, hx1⟩ : ∃ x, x = d[m]! := ⟨_, rfl⟩
        obtain ⟨y1, hy1⟩ : ∃ x, x = d[h]! := ⟨_, rfl⟩
        have l1a := S1.out.ld R (by first | omega | (have := HD.out; omega)) P (m) (by omega)
        have l1b := S1.out.ld R (by first | omega | (have := HD.out; omega)) P (h) (by omega)
        rw [← hx1] at l1a
        rw [← hy1] at l1b
        have hc1 := S1.out.cmp HC.out (by first | omega | (have := HD.out; omega)) x1 y1
        have hv1 : cf x1 y1 < 0 := by rw [hx1, hy1]; exact of_decide_eq_true hL
        have hd1 : decide (cf x1 y1 < 0) = true := decide_eq_true hv1
        have HL : Hid _ := hL
        clear hx1 hy1 hL
        go_wp2_with fail
        go_quiet_grown (first | (go_at_fn g; refine Calls.grown_of (hc1 _ _)))
        have S2 : Aside (SWK enc k w0 blk off d (grow (wr.drewN nq) osq)) := S1.out.grown nq osq
        clear l1a l1b hc1 S1
        generalize grow (wr.drewN nq) osq = w2 at S2 ⊢
        clear nq osq
        go_wp2_with fail
        go_roundg (h - i)
        case measure => omega
        case rel => exact ⟨i, h, rfl, rfl, hai, h1, by omega, Nat.le_refl _, S2, HR.out.1, .inr HL.out⟩
    · have hnot : ¬ (i : Int) < (j : Int) := by omega
      obtain rfl : i = j := by omega
      go_wp2_with fail
      go_loopg [17] (m - i) (fun kx s13 wr => ∃ (x : Nat) (dk : Array α), s13 = .int .i64 x ∧ i ≤ x ∧ x ≤ m ∧ x - i ≤ kx ∧ dk.size = d.size ∧ Aside (SWK enc k w0 blk off dk wr) ∧ Hid (Rot a b x m b d dk))
      case atStart => exact ⟨m, d, rfl, hjm, Nat.le_refl _, Nat.le_refl _, rfl, S1, Rot.none _ _ _ _ _ _ (.inl rfl) (by omega) (by omega)⟩
      case round =>
        clear S1
        obtain ⟨x, dk, rfl, hix, hxm, hkx2, hds, S1, HT⟩ := hrel
        by_cases hxl : i < x
        · obtain ⟨y, rfl⟩ : ∃ y, x = y + 1 := ⟨x - 1, by omega⟩
          have c1 : (i : Int) < (y : Int) + 1 := by omega
          have c2 : (y : Int) < (d.size : Int) := by omega
          have c3 : (y : Int) + 1 < (d.size : Int) := by omega
          have c4 : ((y : Int) + 1).toNat = y + 1 := by omega
          have c5 : (0 : Int) ≤ (y : Int) + 1 := by omega
          have S2 : Aside (SWK enc k w0 blk off (swp dk (y + 1) (y)) ((wr.drew.setCells blk (off + (y + 1) * k) (enc dk[y]!)).setCells blk (off + (y) * k) (enc dk[y + 1]!))) := S1.out.swapped R (y + 1) (y) (by omega) (by omega)
          have la := S1.out.ld1 R (by first | omega | (have := HD.out; omega)) P (y + 1) (by omega)
          have lb := S1.out.ld1 R (by first | omega | (have := HD.out; omega)) P (y) (by omega)
          have sa := S1.out.st1 R (by first | omega | (have := HD.out; omega)) P (y + 1) (by omega) dk[y]!
          have sb := S1.out.st2 R (by first | omega | (have := HD.out; omega)) P (y + 1) (y) (by omega) (by omega) dk[y]! dk[y + 1]!
          have na : (enc dk[y + 1]!).length = k := R.hk _
          have nb : (enc dk[y]!).length = k := R.hk _
          generalize enc dk[y + 1]! = cI at S2 la sb na
          generalize enc dk[y]! = cJ at S2 lb sa sb nb
          clear S1
          go_wp2_with fail
          go_big_region_o
          clear la lb sa sb
          generalize (wr.drew.setCells blk (off + (y + 1) * k) cJ).setCells blk (off + (y) * k) cI = w2 at S2 ⊢
          go_wp2_with fail
          go_roundg (y - i)
          case measure => omega
          case rel =>
            have hT := HT.out
            rw [HM.out] at hT
            exact ⟨y, swp dk (y + 1) y, by go_num, by omega, by omega, Nat.le_refl _, by rw [size_swp]; exact hds, S2, by rw [HM.out]; exact hT.down (by omega) (by omega) (by omega) (by omega)⟩
        · have c1 : ¬ (i : Int) < (x : Int) := by omega
          have e : x = i := by omega
          go_wp2_with fail
          (try simp only [Exit.inBlock, Exit.then]); refine bodyPost_ret (results_none rfl _ _ _) rfl ?_
          have hT := HT.out
          rw [HM.out, e] at hT
          obtain ⟨q1, q2⟩ := HR.out
          rw [HM.out]
          exact ⟨rfl, dk, ⟨hT.perm, one_down HO.out H1.out hT hai hjm q1 q2⟩, S1.out⟩
end Go.Proofs.Ytgdeongeonhlpaa
