/- The contract of the stable sort's turning of a row. -/
import Derived.Test.YtgdeongeonhlpaaSwap
namespace Go.Proofs.Ytgdeongeonhlpaa
open Go.Shelf Go.RowKit Go.Lib Go.Sort
variable {α : Type} [Inhabited α]

set_option maxHeartbeats 4000000 in
set_option maxRecDepth 1000000 in
theorem rotate_any {P : Program} {k : Nat} (L : SLay P k) (enc : α → List Value) (g : Nat) (cb : Array Value) (blk off cap a m b lo hi : Nat) (d0 d : Array α) (w0 w : World)
    (R : RowK enc k w0 blk off d0) (hs : d0.size = d.size) (S : SWK enc k w0 blk off d w) (hlo : lo ≤ a) (ham : a < m) (hmb : m < b) (hb : b ≤ hi) (hhi : hi ≤ d.size) (hsz : d.size < 4611686018427387904) :
    Calls P 58 #[.slice (some ⟨blk, off, none⟩) d.size cap, .int .i64 a, .int .i64 m, .int .i64 b, .func (.func g) #[] cb] w fun e w' =>
      e = .returned (.tuple #[]) ∧ ∃ d', Hid (Rot lo hi a m b d d') ∧ SWK enc k w0 blk off d' w' := by
  have mixed := L.mixed; have aE := L.aE; have zE := L.zE; have t0 := L.t0; have a0 := L.a0; have z0 := L.z0; have v0 := L.v0; have t1 := L.t1; have a1 := L.a1; have z1 := L.z1; have v1 := L.v1; have t2 := L.t2; have a2 := L.a2; have z2 := L.z2; have v2 := L.v2; have t3 := L.t3; have a3 := L.a3; have z3 := L.z3; have v3 := L.v3; have t4 := L.t4; have a4 := L.a4; have z4 := L.z4; have v4 := L.v4; have t5 := L.t5; have a5 := L.a5; have z5 := L.z5; have v5 := L.v5
  have eW : ∀ args w, (callFunc 59 args).run P w = .ok (.enter 59 args) w := enters_of L.fW (by kernel_rfl) rfl
  have S0 : Aside (SWK enc k w0 blk off d w) := S
  have HD : Hid (d0.size = d.size) := hs
  clear S hs
  have i0 : (m : Int) - (a : Int) = ((m - a : Nat) : Int) := by omega
  have j0 : (b : Int) - (m : Int) = ((b - m : Nat) : Int) := by omega
  obtain ⟨I, hI⟩ : ∃ I, I = m - a := ⟨_, rfl⟩
  obtain ⟨J, hJ⟩ : ∃ J, J = b - m := ⟨_, rfl⟩
  rw [← hI] at i0
  rw [← hJ] at j0
  have HI : Hid (I = m - a) := hI
  have HJ : Hid (J = b - m) := hJ
  clear hI hJ
  go_enter L.fR, Try.ntmps58
  go_wp2_with fail
  go_loopg [10, 11] (I + J) (fun kx s10 s11 wr => ∃ (i j : Nat) (dk : Array α), s10 = .int .i64 i ∧ s11 = .int .i64 j ∧ 0 < i ∧ 0 < j ∧ i ≤ m ∧ lo ≤ m - i ∧ m + j ≤ hi ∧ i + j ≤ kx ∧ Aside (SWK enc k w0 blk off dk wr) ∧ Hid (PermIn lo hi d dk ∧ ∀ x, rotAt dk (m - i) m (m + j) x = rotAt d a m b x))
  case atStart => exact ⟨I, J, d, rfl, rfl, by have := HI.out; omega, by have := HJ.out; omega, by have := HI.out; omega, by have := HI.out; omega, by have := HJ.out; omega, Nat.le_refl _, S0, permIn_refl _ _ _, fun x => by rw [HI.out, HJ.out, show m - (m - a) = a by omega, show m + (b - m) = b by omega]⟩
  case round =>
    clear S0 i0 j0 HI HJ
    obtain ⟨i, j, dk, rfl, rfl, hi0, hj0, him, hlm, hmj, hkx, S1, HR⟩ := hrel
    have hds : dk.size = d.size := HR.out.1.1
    obtain ⟨p, hp⟩ : ∃ p, p = m - i := ⟨_, rfl⟩
    have pz : (m : Int) - (i : Int) = (p : Int) := by omega
    rw [← hp] at hlm
    have HP : Hid (p = m - i) := hp
    rcases Nat.lt_trichotomy i j with hij | hij | hij
    · have c1 : ¬ (i : Int) = (j : Int) := by omega
      have c2 : ¬ (j : Int) < (i : Int) := by omega
      obtain ⟨q, hq⟩ : ∃ q, q = m + j - i := ⟨_, rfl⟩
      obtain ⟨M, hM⟩ : ∃ M, M = m + j := ⟨_, rfl⟩
      have mz : (m : Int) + (j : Int) = (M : Int) := by omega
      have qz : (M : Int) - (i : Int) = (q : Int) := by omega
      have r1 : IntKind.i64.wrap (M : Int) = (M : Int) := by rw [IntKind.wrap_i64]; omega
      have hsw := swapRange_any L enc g cb blk off cap p q i lo hi d0 dk w0 wr R (by rw [hds]; exact HD.out) S1.out hlm (by omega) (by omega) (by omega) (by omega)
      rw [hds] at hsw
      obtain ⟨r, hr⟩ : ∃ r, r = j - i := ⟨_, rfl⟩
      have rz : (j : Int) - (i : Int) = (r : Int) := by omega
      have HQ : Hid (q = m + j - i ∧ r = j - i) := ⟨hq, hr⟩
      have HDS : Hid (dk.size = d.size) := hds
      clear hp hq hr S1 hds hM
      go_wp2_with (go_at_fn 59; refine hsw.mono ?_; rintro e w' ⟨rfl, d', HS, S2⟩)
      have S3 : Aside _ := S2
      clear S2 hsw
      go_wp2_with fail
      go_roundg (i + r)
      case measure => have := HQ.out.2; omega
      case rel =>
        obtain ⟨q1, q2⟩ := HQ.out
        have h1 := HP.out
        have hS := HS.out
        rw [h1, q1] at hS
        exact ⟨i, r, d', rfl, rfl, hi0, by omega, him, by rw [← h1]; exact hlm, by omega, Nat.le_refl _, S3, permIn_trans _ _ _ _ _ HR.out.1 hS.perm, fun x => by rw [q2, rot_right hS hij him, HR.out.2]⟩
    · subst hij
      have hsw := swapRange_any L enc g cb blk off cap p m i lo hi d0 dk w0 wr R (by rw [hds]; exact HD.out) S1.out hlm (by omega) (by omega) (by omega) (by omega)
      rw [hds] at hsw
      have HDS : Hid (dk.size = d.size) := hds
      clear hp S1 hds
      go_wp2_with (go_at_fn 59; refine hsw.mono ?_; rintro e w' ⟨rfl, d', HS, S2⟩)
      go_end0
      have h1 := HP.out
      have hS := HS.out
      rw [h1] at hS
      exact ⟨rfl, d', ⟨permIn_trans _ _ _ _ _ HR.out.1 hS.perm, fun x => by rw [rot_end hS him, HR.out.2]⟩, S2⟩
    · have c1 : ¬ (i : Int) = (j : Int) := by omega
      have c2 : (j : Int) < (i : Int) := by omega
      have hsw := swapRange_any L enc g cb blk off cap p m j lo hi d0 dk w0 wr R (by rw [hds]; exact HD.out) S1.out hlm (by omega) (by omega) (by omega) (by omega)
      rw [hds] at hsw
      obtain ⟨r, hr⟩ : ∃ r, r = i - j := ⟨_, rfl⟩
      have rz : (i : Int) - (j : Int) = (r : Int) := by omega
      have HQ : Hid (r = i - j) := hr
      have HDS : Hid (dk.size = d.size) := hds
      clear hp hr S1 hds
      go_wp2_with (go_at_fn 59; refine hsw.mono ?_; rintro e w' ⟨rfl, d', HS, S2⟩)
      have S3 : Aside _ := S2
      clear S2 hsw
      go_wp2_with fail
      go_roundg (r + j)
      case measure => have := HQ.out; omega
      case rel =>
        have q2 := HQ.out
        have h1 := HP.out
        have hS := HS.out
        rw [h1] at hS
        exact ⟨r, j, d', rfl, rfl, by omega, hj0, by omega, by omega, by omega, Nat.le_refl _, S3, permIn_trans _ _ _ _ _ HR.out.1 hS.perm, fun x => by rw [q2, rot_left hS hij him, HR.out.2]⟩
end Go.Proofs.Ytgdeongeonhlpaa
