/- Contracts of the stable sort's exchanging of ranges. -/
import Derived.Test.YtgdeongeonhlpaaSMath
import Derived.Test.YtgdeongeonhlpaaIns
import Derived.Test.YtgdeongeonhlpaaChecked
import Derived.Sort.WalkB2
import Derived.Sort.WalkB12
import Derived.Deep.LoopGhost
namespace Go.Proofs.Ytgdeongeonhlpaa
open Go.Shelf Go.RowKit Go.Lib Go.Sort
variable {α : Type} [Inhabited α]

/-- What the sort's functions lean on, of a program and the cells of an element. -/
structure SLay (P : Program) (k : Nat) : Prop where
  mixed : P.follows Departure.mixedOrders = true
  ins : SlLaysF0.n20 P Try.laysSlF020_ren
  fS : P.funcs[53]? = some Try.f53
  fM : P.funcs[57]? = some Try.f57
  fR : P.funcs[58]? = some Try.f58
  fW : P.funcs[59]? = some Try.f59
  aE : ∀ w, (isAgg 46).run P w = .ok true w
  zE : ∀ w, (Go.sizeOf 46).run P w = .ok k w
  t0 : P.underlying 0 = some (TypeDesc.tuple #[])
  a0 : ∀ w, (isAgg 0).run P w = .ok false w
  z0 : ∀ w, (Go.sizeOf 0).run P w = .ok 1 w
  v0 : ∀ w, (zeroValue 0).run P w = .ok (Value.tuple #[]) w
  t1 : P.underlying 3 = some (TypeDesc.int IntKind.i64)
  a1 : ∀ w, (isAgg 3).run P w = .ok false w
  z1 : ∀ w, (Go.sizeOf 3).run P w = .ok 1 w
  v1 : ∀ w, (zeroValue 3).run P w = .ok (Value.int IntKind.i64 0) w
  t2 : P.underlying 4 = some (TypeDesc.bool)
  a2 : ∀ w, (isAgg 4).run P w = .ok false w
  z2 : ∀ w, (Go.sizeOf 4).run P w = .ok 1 w
  v2 : ∀ w, (zeroValue 4).run P w = .ok (Value.bool false) w
  t3 : P.underlying 36 = some (TypeDesc.slice 46)
  a3 : ∀ w, (isAgg 36).run P w = .ok false w
  z3 : ∀ w, (Go.sizeOf 36).run P w = .ok 1 w
  v3 : ∀ w, (zeroValue 36).run P w = .ok (Value.slice none 0 0) w
  t4 : P.underlying 72 = some (TypeDesc.func #[46, 46] #[3] false)
  a4 : ∀ w, (isAgg 72).run P w = .ok false w
  z4 : ∀ w, (Go.sizeOf 72).run P w = .ok 1 w
  v4 : ∀ w, (zeroValue 72).run P w = .ok (Value.nilFunc) w
  t5 : P.underlying 83 = some (TypeDesc.int IntKind.u64)
  a5 : ∀ w, (isAgg 83).run P w = .ok false w
  z5 : ∀ w, (Go.sizeOf 83).run P w = .ok 1 w
  v5 : ∀ w, (zeroValue 83).run P w = .ok (Value.int IntKind.u64 0) w
theorem slay : SLay Try.prog 4 := {
  mixed := by kernel_rfl
  ins := Try.laysSlF020
  fS := Try.func53
  fM := Try.func57
  fR := Try.func58
  fW := Try.func59
  aE := Try.isAgg46
  zE := Try.sizeOf46
  t0 := Try.underlying0
  a0 := Try.isAgg0
  z0 := Try.sizeOf0
  v0 := Try.zeroValue0
  t1 := Try.underlying3
  a1 := Try.isAgg3
  z1 := Try.sizeOf3
  v1 := Try.zeroValue3
  t2 := Try.underlying4
  a2 := Try.isAgg4
  z2 := Try.sizeOf4
  v2 := Try.zeroValue4
  t3 := Try.underlying36
  a3 := Try.isAgg36
  z3 := Try.sizeOf36
  v3 := Try.zeroValue36
  t4 := Try.underlying72
  a4 := Try.isAgg72
  z4 := Try.sizeOf72
  v4 := Try.zeroValue72
  t5 := Try.underlying83
  a5 := Try.isAgg83
  z5 := Try.sizeOf83
  v5 := Try.zeroValue83 }

set_option maxHeartbeats 4000000 in
set_option maxRecDepth 1000000 in
theorem swapRange_any {P : Program} {k : Nat} (L : SLay P k) (enc : α → List Value) (g : Nat) (cb : Array Value) (blk off cap a b n lo hi : Nat) (d0 d : Array α) (w0 w : World)
    (R : RowK enc k w0 blk off d0) (hs : d0.size = d.size) (S : SWK enc k w0 blk off d w) (hlo : lo ≤ a) (hab : a + n ≤ b) (hb : b + n ≤ hi) (hhi : hi ≤ d.size) (hsz : d.size < 4611686018427387904) :
    Calls P 59 #[.slice (some ⟨blk, off, none⟩) d.size cap, .int .i64 a, .int .i64 b, .int .i64 n, .func (.func g) #[] cb] w fun e w' =>
      e = .returned (.tuple #[]) ∧ ∃ d', Hid (SwR lo hi a b n d d') ∧ SWK enc k w0 blk off d' w' := by
  have mixed := L.mixed; have aE := L.aE; have zE := L.zE; have t0 := L.t0; have a0 := L.a0; have z0 := L.z0; have v0 := L.v0; have t1 := L.t1; have a1 := L.a1; have z1 := L.z1; have v1 := L.v1; have t2 := L.t2; have a2 := L.a2; have z2 := L.z2; have v2 := L.v2; have t3 := L.t3; have a3 := L.a3; have z3 := L.z3; have v3 := L.v3; have t4 := L.t4; have a4 := L.a4; have z4 := L.z4; have v4 := L.v4; have t5 := L.t5; have a5 := L.a5; have z5 := L.z5; have v5 := L.v5
  have S0 : Aside (SWK enc k w0 blk off d w) := S
  clear S
  go_enter L.fW, Try.ntmps59
  go_wp2
  go_loopg [10] n (fun kx s10 wr => ∃ (i : Nat) (dk : Array α), s10 = .int .i64 i ∧ i ≤ n ∧ n - i ≤ kx ∧ dk.size = d.size ∧ Aside (SWK enc k w0 blk off dk wr) ∧ Hid (SwR lo hi a b i d dk))
  case atStart => exact ⟨0, d, rfl, Nat.zero_le _, Nat.le_refl _, rfl, S0, SwR.refl _ _ _ _ _⟩
  case round =>
    clear S0
    obtain ⟨i, dk, rfl, hin, hkx, hds, S1, HR⟩ := hrel
    by_cases hlt : i < n
    · have hltz : (i : Int) < (n : Int) := by omega
      have pa : (0 : Int) ≤ (a : Int) + (i : Int) := by omega
      have ba : (a : Int) + (i : Int) < (d.size : Int) := by omega
      have pc : (0 : Int) ≤ (b : Int) + (i : Int) := by omega
      have bc : (b : Int) + (i : Int) < (d.size : Int) := by omega
      have ea : ((a : Int) + (i : Int)).toNat = a + i := by omega
      have ec : ((b : Int) + (i : Int)).toNat = b + i := by omega
      have ra : IntKind.i64.wrap ((a : Int) + (i : Int)) = (a : Int) + (i : Int) := by rw [IntKind.wrap_i64]; omega
      have rc : IntKind.i64.wrap ((b : Int) + (i : Int)) = (b : Int) + (i : Int) := by rw [IntKind.wrap_i64]; omega
      have S2 : Aside (SWK enc k w0 blk off (swp dk (a + i) (b + i)) ((wr.drew.setCells blk (off + (a + i) * k) (enc dk[b + i]!)).setCells blk (off + (b + i) * k) (enc dk[a + i]!))) := S1.out.swapped R (a + i) (b + i) (by omega) (by omega)
      have la := S1.out.ld1 R (by omega) P (a + i) (by omega)
      have lb := S1.out.ld1 R (by omega) P (b + i) (by omega)
      have sa := S1.out.st1 R (by omega) P (a + i) (by omega) dk[b + i]!
      have sb := S1.out.st2 R (by omega) P (a + i) (b + i) (by omega) (by omega) dk[b + i]! dk[a + i]!
      have na : (enc dk[a + i]!).length = k := R.hk _
      have nb : (enc dk[b + i]!).length = k := R.hk _
      generalize enc dk[a + i]! = cI at S2 la sb na
      generalize enc dk[b + i]! = cJ at S2 lb sa sb nb
      clear S1
      go_wp2_with fail
      go_big_region_o
      clear la lb sa sb
      generalize (wr.drew.setCells blk (off + (a + i) * k) cJ).setCells blk (off + (b + i) * k) cI = w2 at S2 ⊢
      go_wp2
      go_roundg (n - (i + 1))
      case measure => omega
      case rel => exact ⟨i + 1, swp dk (a + i) (b + i), by go_num, by omega, Nat.le_refl _, by rw [size_swp]; exact hds, S2, HR.out.step hlo (by omega) (by omega) hhi⟩
    · have hnot : ¬ (i : Int) < (n : Int) := by omega
      have e : i = n := by omega
      subst e
      go_wp2
      go_end0
      exact ⟨rfl, dk, HR, S1.out⟩
end Go.Proofs.Ytgdeongeonhlpaa
