/- The contract of the stable sort. -/
import Derived.Test.YtgdeongeonhlpaaMerge2
namespace Go.Proofs.Ytgdeongeonhlpaa
open Go.Shelf Go.RowKit Go.Lib Go.Sort
variable {α : Type} [Inhabited α]

theorem ins_w {P : Program} {k : Nat} (L : SLay P k) (enc : α → List Value) (cf : α → α → Int) (hO : SWO (ltOf cf)) (g : Nat) (cb : Array Value) (eg : ∀ args w, (callFunc g args).run P w = .ok (.enter g args) w) (blk off cap a b : Nat) (d0 d : Array α) (w0 w : World)
    (hcmp : CmpLays P g cb enc k cf blk off d0.size w0) (R : RowK enc k w0 blk off d0) (hs : d0.size = d.size) (S : SWK enc k w0 blk off d w) (hab : a ≤ b) (hb : b ≤ d.size) (hsz : d.size < 4611686018427387904) :
    Calls P 56 #[.slice (some ⟨blk, off, none⟩) d.size cap, .int .i64 a, .int .i64 b, .func (.func g) #[] cb] w fun e w' =>
      e = .returned (.tuple #[]) ∧ ∃ d', Hid (PermIn a b d d' ∧ SortedIn (ltOf cf) a b d') ∧ SWK enc k w0 blk off d' w' := by
  have hC : CmpLays P g cb enc k cf blk off d.size w := by
    obtain ⟨n0, os0, rfl⟩ := id S
    intro n os dk hd x y
    have e := sortWorldK_on enc k w0 blk off n0 n d dk os0 os R.hblk hd
    rw [e]
    exact hcmp _ _ dk (by omega) x y
  refine (AnyQ.insertionSortCmpFunc L.ins k L.aE L.zE enc R.hk R.h1 cf g cb blk off cap a b d w eg hC (S.holds R.hblk R.hH hs.symm) (S.lt R.hblk) hab hb hsz).mono ?_
  rintro e w' ⟨rfl, n, os, rfl⟩
  have hi := insertionSort_holds (lt := ltOf cf) hO d a b hab hb
  exact ⟨rfl, _, hi, S.on R.hblk n _ os hi.1.1⟩

set_option maxHeartbeats 8000000 in
set_option maxRecDepth 1000000 in
theorem stable_any {P : Program} {k : Nat} (L : SLay P k) (enc : α → List Value) (cf : α → α → Int) (hO : SWO (ltOf cf)) (g : Nat) (cb : Array Value) (eg : ∀ args w, (callFunc g args).run P w = .ok (.enter g args) w) (blk off cap : Nat) (d : Array α) (w : World)
    (hcmp : CmpLays P g cb enc k cf blk off d.size w) (R : RowK enc k w blk off d) (hsz : d.size < 1152921504606846976) :
    Calls P 53 #[.slice (some ⟨blk, off, none⟩) d.size cap, .int .i64 d.size, .func (.func g) #[] cb] w fun e w' =>
      e = .returned (.tuple #[]) ∧ ∃ d', Hid (PermIn 0 d.size d d' ∧ SortedIn (ltOf cf) 0 d.size d') ∧ SWK enc k w blk off d' w' := by
  have mixed := L.mixed; have aE := L.aE; have zE := L.zE; have t0 := L.t0; have a0 := L.a0; have z0 := L.z0; have v0 := L.v0; have t1 := L.t1; have a1 := L.a1; have z1 := L.z1; have v1 := L.v1; have t2 := L.t2; have a2 := L.a2; have z2 := L.z2; have v2 := L.v2; have t3 := L.t3; have a3 := L.a3; have z3 := L.z3; have v3 := L.v3; have t4 := L.t4; have a4 := L.a4; have z4 := L.z4; have v4 := L.v4; have t5 := L.t5; have a5 := L.a5; have z5 := L.z5; have v5 := L.v5
  have eM : ∀ args w, (callFunc 57 args).run P w = .ok (.enter 57 args) w := enters_of L.fM (by kernel_rfl) rfl
  have eI : ∀ args w, (callFunc 56 args).run P w = .ok (.enter 56 args) w := L.ins.f20.enters rfl
  have S0 : Aside (SWK enc k w blk off d w) := SWK.start R.hH
  have HC : Aside _ := hcmp
  have HO : Hid _ := hO
  clear hcmp hO
  obtain ⟨n, hn⟩ : ∃ n, n = d.size := ⟨_, rfl⟩
  rw [← hn]
  have HN : Hid (n = d.size) := hn
  rw [← hn] at hsz
  clear hn
  go_enter L.fS, Try.ntmps53
  go_wp2_with fail
  go_loopg [7, 8] n (fun kx s7 s8 wr => ∃ (q A : Nat) (dk : Array α), s7 = .int .i64 A ∧ s8 = .int .i64 ((A : Int) + 20) ∧ A ≤ n ∧ n - A ≤ kx ∧ dk.size = n ∧ Aside (SWK enc k w blk off dk wr) ∧ Hid (A = q * 20 ∧ PermIn 0 n d dk ∧ BlkTo (ltOf cf) 20 A dk))
  case atStart => exact ⟨0, 0, d, rfl, rfl, Nat.zero_le _, by omega, HN.out.symm, S0, by omega, permIn_refl _ _ _, BlkTo.zero 20 (by omega) d⟩
  case round =>
    clear S0
    obtain ⟨q, A, dk, rfl, rfl, hAn, hkx, hdn, S1, HA⟩ := hrel
    by_cases hlt : A + 20 ≤ n
    · have hltz : (A : Int) + 20 ≤ (n : Int) := by omega
      have hin := ins_w L enc cf HO.out g cb eg blk off cap A (A + 20) d dk w wr HC.out R (by rw [hdn]; exact HN.out.symm) S1.out (by omega) (by omega) (by omega)
      rw [hdn] at hin
      rw [show (((A + 20 : Nat)) : Int) = (A : Int) + 20 by omega] at hin
      have HDN : Hid (dk.size = n) := hdn
      clear S1 hdn
      go_wp2_with (go_at_fn 56; refine hin.mono ?_; rintro e w' ⟨rfl, d', HP, S2⟩)
      have S3 : Aside _ := S2
      clear S2 hin
      go_wp2_with fail
      go_roundg (n - (A + 20))
      case measure => omega
      case rel =>
        obtain ⟨a1, a2, a3⟩ := HA.out
        refine ⟨q + 1, A + 20, d', by go_num, by go_num, by omega, Nat.le_refl _, HP.out.1.1.trans HDN.out, S3, by omega, permIn_trans _ _ _ _ _ a2 (permIn_mono dk d' A (A + 20) 0 n (by omega) hlt (by rw [HDN.out]; exact Nat.le_refl _) HP.out.1), ?_⟩
        subst a1
        exact a3.next (by omega) HP.out.1 HP.out.2
    · have hltz : ¬ (A : Int) + 20 ≤ (n : Int) := by omega
      have hin := ins_w L enc cf HO.out g cb eg blk off cap A n d dk w wr HC.out R (by rw [hdn]; exact HN.out.symm) S1.out hAn (by omega) (by omega)
      rw [hdn] at hin
      have HDN : Hid (dk.size = n) := hdn
      clear S1 hdn
      go_wp2_with (go_at_fn 56; refine hin.mono ?_; rintro e w' ⟨rfl, d1, HP, S2⟩)
      have HB : Hid (PermIn 0 n d d1 ∧ BlkFrom (ltOf cf) 20 n 0 d1) := by
        obtain ⟨a1, a2, a3⟩ := HA.out
        subst a1
        refine ⟨permIn_trans _ _ _ _ _ a2 (permIn_mono dk d1 (q * 20) n 0 n (by omega) (Nat.le_refl _) (by rw [HDN.out]; exact Nat.le_refl _) HP.out.1), ?_⟩
        exact blocks_all (fun p hp => SortedIn.kept (a3 p hp) HP.out.1 (.inl hp)) (by omega) HP.out.2 (by omega)
      have hd1 : d1.size = n := HP.out.1.1.trans HDN.out
      have S3 : Aside _ := S2
      clear S2 hin HP HA HDN hltz hlt hAn hkx
      go_wp2_with fail
      go_loopg [6, 7, 8] n (fun kx s6 s7 s8 wr => ∃ (bs : Nat) (dk : Array α), s6 = .int .i64 bs ∧ 0 < bs ∧ bs ≤ n + n + 20 ∧ n - bs ≤ kx ∧ dk.size = n ∧ Aside (SWK enc k w blk off dk wr) ∧ Hid (PermIn 0 n d dk ∧ BlkFrom (ltOf cf) bs n 0 dk))
      case atStart => exact ⟨20, d1, rfl, by omega, by omega, by omega, hd1, S3, HB⟩
      case round =>
        clear S3 HB hd1
        obtain ⟨bs, dk, rfl, hb0, hbn, hkx, hdn, S1, HB⟩ := hrel
        by_cases hlt : bs < n
        · have hltz : (bs : Int) < (n : Int) := by omega
          obtain ⟨t, ht⟩ : ∃ t, t = 2 * bs := ⟨_, rfl⟩
          have tz : (2 : Int) * (bs : Int) = (t : Int) := by omega
          have tz2 : (bs : Int) * (2 : Int) = (t : Int) := by omega
          have rt : IntKind.i64.wrap (t : Int) = (t : Int) := by rw [IntKind.wrap_i64]; omega
          have HT : Hid (t = 2 * bs) := ht
          have ht1 : t ≤ bs + bs := by omega
          have ht2 : bs + bs ≤ t := by omega
          clear ht
          go_wp2_with fail
          go_loopg [7, 8] n (fun kx s7 s8 wr => ∃ (q A : Nat) (dj : Array α), s7 = .int .i64 A ∧ s8 = .int .i64 ((A : Int) + (t : Int)) ∧ A ≤ n ∧ n - A ≤ kx ∧ dj.size = n ∧ Aside (SWK enc k w blk off dj wr) ∧ Hid (A = q * t ∧ PermIn 0 n d dj ∧ BlkTo (ltOf cf) t A dj ∧ BlkFrom (ltOf cf) bs n A dj))
          case atStart => exact ⟨0, 0, dk, rfl, by go_num, Nat.zero_le _, by omega, hdn, S1, by omega, HB.out.1, BlkTo.zero t (by omega) dk, HB.out.2⟩
          case round =>
            clear S1 HB hdn
            obtain ⟨q, A, dj, rfl, rfl, hAn, hkx2, hdn, S1, HA⟩ := hrel
            have ra : IntKind.i64.wrap ((A : Int) + (t : Int)) = (A : Int) + (t : Int) := by rw [IntKind.wrap_i64]; omega
            have rb : IntKind.i64.wrap ((A : Int) + (bs : Int)) = (A : Int) + (bs : Int) := by rw [IntKind.wrap_i64]; omega
            by_cases hle : A + t ≤ n
            · have hlez : (A : Int) + (t : Int) ≤ (n : Int) := by omega
              have hpre : SortedIn (ltOf cf) A (A + bs) dj ∧ SortedIn (ltOf cf) (A + bs) (A + t) dj := by
                obtain ⟨a1, a2, a3, a4⟩ := HA.out
                have e := HT.out
                subst a1
                subst e
                have := a4.two
                rw [Nat.min_eq_left (by omega), Nat.min_eq_left hle] at this
                exact this
              have hmg := merge_any L enc cf HO.out g cb eg blk off cap d w HC.out R (by have := HN.out; omega) (n + 1) A (A + bs) (A + t) dj wr (by omega) (by omega) (by omega) (by omega) (by rw [hdn]; exact HN.out.symm) S1.out hpre.1 hpre.2
              rw [hdn, show (((A + bs : Nat)) : Int) = (A : Int) + (bs : Int) by omega, show (((A + t : Nat)) : Int) = (A : Int) + (t : Int) by omega] at hmg
              have rc : IntKind.i64.wrap ((A : Int) + (t : Int) + (t : Int)) = (A : Int) + (t : Int) + (t : Int) := by rw [IntKind.wrap_i64]; omega
              have HDN : Hid (dj.size = n) := hdn
              clear S1 hdn hpre
              go_wp2_with (go_at_fn 57; refine hmg.mono ?_; rintro e w' ⟨rfl, d', HP, S2⟩)
              have S3 : Aside _ := S2
              clear S2 hmg
              go_wp2_with fail
              go_roundg (n - (A + t))
              case measure => omega
              case rel =>
                obtain ⟨a1, a2, a3, a4⟩ := HA.out
                refine ⟨q + 1, A + t, d', by go_num, by go_num, hle, Nat.le_refl _, HP.out.1.1.trans HDN.out, S3, by rw [a1, Nat.add_mul, Nat.one_mul], permIn_trans _ _ _ _ _ a2 (permIn_mono dj d' A (A + t) 0 n (by omega) hle (by rw [HDN.out]; exact Nat.le_refl _) HP.out.1), ?_, a4.next HP.out.1 (by omega)⟩
                subst a1
                exact a3.next (by omega) HP.out.1 HP.out.2
            · have hlez : ¬ (A : Int) + (t : Int) ≤ (n : Int) := by omega
              by_cases hm : A + bs < n
              · have hmz : (A : Int) + (bs : Int) < (n : Int) := by omega
                have hpre : SortedIn (ltOf cf) A (A + bs) dj ∧ SortedIn (ltOf cf) (A + bs) n dj := by
                  obtain ⟨a1, a2, a3, a4⟩ := HA.out
                  have e := HT.out
                  subst a1
                  subst e
                  have := a4.two
                  rw [Nat.min_eq_left (by omega), Nat.min_eq_right (by omega)] at this
                  exact this
                have hmg := merge_any L enc cf HO.out g cb eg blk off cap d w HC.out R (by have := HN.out; omega) (n + 1) A (A + bs) n dj wr (by omega) (by omega) hm (by omega) (by rw [hdn]; exact HN.out.symm) S1.out hpre.1 hpre.2
                rw [hdn, show (((A + bs : Nat)) : Int) = (A : Int) + (bs : Int) by omega] at hmg
                have HDN : Hid (dj.size = n) := hdn
                clear S1 hdn hpre
                go_wp2_with (go_at_fn 57; refine hmg.mono ?_; rintro e w' ⟨rfl, d', HP, S2⟩)
                have S3 : Aside _ := S2
                clear S2 hmg
                go_wp2_with fail
                go_roundg (n - t)
                case measure => omega
                case rel =>
                  obtain ⟨a1, a2, a3, a4⟩ := HA.out
                  subst a1
                  refine ⟨t, d', rfl, by omega, by omega, Nat.le_refl _, HP.out.1.1.trans HDN.out, S3, permIn_trans _ _ _ _ _ a2 (permIn_mono dj d' (q * t) n 0 n (by omega) (Nat.le_refl _) (by rw [HDN.out]; exact Nat.le_refl _) HP.out.1), ?_⟩
                  exact blocks_all (fun p hp => SortedIn.kept (a3 p hp) HP.out.1 (.inl hp)) (by omega) HP.out.2 (by omega)
              · have hmz : ¬ (A : Int) + (bs : Int) < (n : Int) := by omega
                go_wp2_with fail
                go_roundg (n - t)
                case measure => omega
                case rel =>
                  obtain ⟨a1, a2, a3, a4⟩ := HA.out
                  have e := HT.out
                  subst a1
                  refine ⟨t, dj, rfl, by omega, by omega, Nat.le_refl _, hdn, S1, a2, ?_⟩
                  refine blocks_all a3 (by omega) ?_ (by omega)
                  subst e
                  have := a4.two.1
                  rwa [Nat.min_eq_right (by omega)] at this
        · have hltz : ¬ (bs : Int) < (n : Int) := by omega
          go_wp2_with fail
          go_end0
          refine ⟨rfl, dk, ?_, S1.out⟩
          exact ⟨HB.out.1, sorted_all HB.out.2 (by omega)⟩
end Go.Proofs.Ytgdeongeonhlpaa
