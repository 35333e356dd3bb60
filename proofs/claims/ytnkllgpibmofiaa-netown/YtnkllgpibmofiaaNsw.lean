/- NetSeen's walk. -/
import Derived.Test.YtnkllgpibmofiaaNta
import Derived.Test.YtnkllgpibmofiaaPuS
import Derived.Test.YtnkllgpibmofiaaRegX
import Derived.Deep.LoopGhost
namespace Go.Proofs.Ytnkllgpibmofiaa
open Go.RowKit Go.Maps Go.Sort
set_option linter.unusedVariables false

/-- A script as it lies in memory: of each call a kind, a place, a number. -/
abbrev Op3 := Int × Int × Nat
structure OpsR (w : World) (v : Value) (L : List Op3) : Prop where
  ex : ∃ ao cap, v = .slice ao L.length cap ∧ L.length ≤ cap ∧ cap ≤ maxLen ∧ (0 < L.length → ∃ b o, ao = some ⟨b, o, none⟩ ∧ ∀ i (hi : i < L.length), w.cell? ⟨b, o + i * 44, none⟩ = some (.int .i64 L[i].1) ∧ w.cell? ⟨b, o + i * 44 + 1, none⟩ = some (.int .i64 L[i].2.1) ∧ w.cell? ⟨b, o + i * 44 + 2, none⟩ = some (.int .u64 (L[i].2.2 : Int)))
  bd : ∀ x ∈ L, B64 x.1 ∧ B64 x.2.1 ∧ U64 x.2.2
/-- Both behind i calls. -/
structure SZ (w0 w : World) (s r : Nat) (M0 : Int) (i k : Nat) (F : Nat → Prop) (mo : Option Nat) (Z : List Rw) (v : Value) (L : List On) : Prop where
  s1 : SnZ w s F M0 k mo Z
  r1 : RS w r M0 v L
  ln : L.length ≤ i
  dj : ∀ j, F j → ¬ RBk r v j
  nf : ∀ j, F j → w0.heap.size ≤ j
  nr : ∀ j, RBk r v j → w0.heap.size ≤ j
  bl : Below w0.heap.size w0 w
structure SS (w0 w : World) (s r : Nat) (M0 : Int) (i : Nat) : Prop where
  ex : ∃ F mo Z v L, SZ w0 w s r M0 i (2 * i) F mo Z v L ∧ Rel M0 Z L
structure S5 (w0 w : World) (s r : Nat) (M0 : Int) (i : Nat) (f : Int) (id : Nat) (b : Bool) : Prop where
  ex : ∃ F mo x x' R Z v L, SZ w0 w s r M0 i (2 * i + 2) F mo (x' :: R) v L ∧ Rel M0 Z L ∧ x.fr = f ∧ x'.fr = f ∧ (Z.Perm (x :: R) ∨ (x.ids = [] ∧ R = Z ∧ ∀ y ∈ Z, y.fr ≠ f)) ∧ Chg M0 x.ids id b x'.ids
  bl : Below w0.heap.size w0 w
theorem S5.rl {w0 w : World} {s r i : Nat} {M0 f : Int} {id : Nat} {b : Bool} (h : S5 w0 w s r M0 i f id b) : True := trivial
theorem SS.bl {w0 w : World} {s r i : Nat} {M0 : Int} (h : SS w0 w s r M0 i) : Below w0.heap.size w0 w := by
  obtain ⟨F, mo, Z, v, L, h, _⟩ := h
  exact h.bl
theorem SS.fresh {w0 w : World} {s r i : Nat} {M0 : Int} (h : SS w0 w s r M0 i) {f : Int} {id : Nat} (hf : B64 f) (hid : U64 id) (hM : B64 M0) (hi : i < 150) :
    Calls Try.prog 25 #[.pointer (some ⟨s, 0, none⟩), .int .i64 f, .int .u64 (id : Int)] w fun e w' => ∃ b, e = .returned (.bool b) ∧ S5 w0 w' s r M0 i f id b := by
  obtain ⟨F, mo, Z, v, L, hz, hr⟩ := h
  refine (fresh_any w s (2 * i) F M0 f id mo Z hz.s1 (by omega) hf hid hM).mono ?_
  rintro e w' ⟨b, x, x', R, F', mo', he, h1, h2, h3, h4, h5, h6, h7⟩
  have hbl : Below w0.heap.size w0 w' := by
    have f1 : Fr (fun j => w0.heap.size ≤ j) w0 w' := (Fr.of_below hz.bl).trans h6 fun j _ hj => hz.nf j hj
    exact f1.below (Nat.le_refl _) fun j hj => hj
  refine ⟨b, he, ⟨F', mo', x, x', R, Z, v, L, ⟨h3, hz.r1.frame fun j hj => h6.block j (hz.r1.lt hj) fun hf => hz.dj j hf hj, hz.ln, fun j hj hb => ?_, fun j hj => ?_, hz.nr, hbl⟩, hr, h1, h2, h4, h5⟩, hbl⟩
  · rcases h7 j hj with h | h
    · exact hz.dj j h hb
    · have := hz.r1.lt hb; omega
  · rcases h7 j hj with h | h
    · exact hz.nf j h
    · have := hz.bl.size; omega
theorem S5.rfresh {w0 w : World} {s r i : Nat} {M0 : Int} {f : Int} {id : Nat} {b : Bool} (h : S5 w0 w s r M0 i f id b) (hf : B64 f) (hid : U64 id) (hM : B64 M0) (hi : i < 150) :
    Calls Try.prog 26 #[.pointer (some ⟨r, 0, none⟩), .int .i64 f, .int .u64 (id : Int)] w fun e w' => e = .returned (.bool b) ∧ SS w0 w' s r M0 (i + 1) := by
  obtain ⟨⟨F, mo, x, x', R, Z, v, L, hz, hr, h1, h2, h4, h5⟩, hb0⟩ := h
  refine (rfresh_any w r M0 f v L id hz.r1 (by have := hz.ln; omega) hf hid hM).mono ?_
  rintro e w' ⟨b', v', L', he, k1, k2, k3, k4⟩
  have hR : ∀ y ∈ R, y.fr ≠ f := fun y hy e => ((List.pairwise_cons.1 hz.s1.ap).1 y hy).1 (h2.trans e.symm)
  obtain ⟨rfl, hrel⟩ := hr.step h1 h2 h4 hR h5 k2
  have hbl : Below w0.heap.size w0 w' := by
    have f1 : Fr (fun j => w0.heap.size ≤ j) w0 w' := (Fr.of_below hz.bl).trans k3 fun j _ hj => hz.nr j hj
    exact f1.below (Nat.le_refl _) fun j hj => hj
  have hln : L'.length ≤ i + 1 := by
    have := hz.ln
    rcases k2 with ⟨_, e, _⟩ | ⟨_, _, _, k, hk, _, _, e⟩ | ⟨_, _, _, e⟩
    · rw [e]; omega
    · rw [e, List.length_set]; omega
    · rw [e]; simp; omega
  refine ⟨he, F, mo, x' :: R, v', L', ⟨hz.s1.frame k3.size fun j hj => k3.block j (hz.s1.lt j hj) fun hb => hz.dj j hj hb, k1, hln, fun j hj hb => ?_, hz.nf, fun j hj => ?_, hbl⟩, hrel⟩
  · rcases hb with hb | hb
    · exact hz.dj j hj (.inl hb)
    · rcases k4 j hb with h | h
      · exact hz.dj j hj (.inr h)
      · have := hz.s1.lt j hj; omega
  · rcases hj with hj | hj
    · exact hz.nr j (.inl hj)
    · rcases k4 j hj with h | h
      · exact hz.nr j (.inr h)
      · have := hz.bl.size; omega
set_option maxRecDepth 20000 in
set_option maxHeartbeats 4000000 in
theorem seen_walk (w : World) (most : Int) (hmo : B64 most) (v : Value) (L : List Op3) (h : OpsR w v L) :
    Calls Try.prog 4 #[.int .i64 most, v] w fun e w' => e = .returned (.bool true) ∧ Below w.heap.size w w' := by
  obtain ⟨ao, cap, hv, hc1, hc2, hat⟩ := h.ex
  subst hv
  obtain ⟨n, hn⟩ : ∃ n, n = L.length := ⟨_, rfl⟩
  rw [← hn] at hc1 ⊢
  have HN := hide hn
  have HAT := hide hat
  have HBD := hide h.bd
  have mixed : Try.prog.follows .mixedOrders = true := by kernel_rfl
  unfold maxLen at hc2
  clear h hat hn
  have hMb : B64 (most.tmod 30) := by
    have h1 := Int.tmod_lt_of_pos most (b := 30) (by omega)
    have h2 := Int.lt_tmod_of_pos most (b := 30) (by omega)
    constructor <;> omega
  go_enter Try.func4, Try.ntmps4
  go_wp2_with (go_at_call 8; refine (awake_any w).mono ?_; rintro e w1 ⟨he1, hb1⟩; subst he1; have HB1 := hide hb1; clear hb1)
  generalize hM0 : most.tmod 30 = M0 at *
  clear hM0
  have HM0 := hide hMb
  go_at_call 24
  refine (newSeen_any w1 M0).mono ?_
  rintro e w2 ⟨he2, hs2, hb2⟩
  subst he2
  obtain ⟨sq, hs⟩ : ∃ s, s = w1.heap.size := ⟨_, rfl⟩
  rw [← hs] at hs2 ⊢
  obtain ⟨r, hr⟩ : ∃ r, r = w2.heap.size := ⟨_, rfl⟩
  have hS0 : SS w (w2.alloc (.cells #[.int .i64 M0, .slice none 0 0] 72)) sq r M0 0 := by
    have hb3 : Below w2.heap.size w2 (w2.alloc (.cells #[.int .i64 M0, .slice none 0 0] 72)) := (Below.refl _ _).alloc (Nat.le_refl _) _
    have q1 := HB1.out.size
    have q2 := hb2.size
    refine ⟨_, none, [], .slice none 0 0, [], ⟨hs2.below hb3, ⟨by rw [hr]; exact BxA.new _ _ _, ⟨rfl, .inl ⟨rfl, rfl⟩⟩⟩, Nat.le_refl _, fun j hj hb => ?_, fun j hj => ?_, fun j hj => ?_, ?_⟩, Rel.start M0⟩
    · rcases hb with hb | hb
      · have := hs2.lt j hj; omega
      · cases hb
    · have : j = sq := hj
      omega
    · rcases hj with hj | hj
      · omega
      · cases hj
    · exact (HB1.out.trans (hb2.mono q1)).trans (hb3.mono (by omega))
  have HS0 := hide hS0
  clear hs2 hb2 hS0 hs
  go_wp2_with fail
  rw [← hr]
  clear hr
  generalize (w2.alloc (.cells #[.int .i64 M0, .slice none 0 0] 72)) = w3 at *
  go_loopg [8] n (fun kx v8 wr => ∃ (i : Nat), v8 = .int .i64 (i : Int) ∧ i ≤ n ∧ n - i ≤ kx ∧ i ≤ 150 ∧ Hid (SS w wr sq r M0 i))
  case atStart => exact ⟨0, rfl, Nat.zero_le _, Nat.le_refl _, by omega, HS0.out⟩
  case round =>
    obtain ⟨i, rfl, hi, hkx, hi150, HS⟩ := hrel
    by_cases hlt : i < n ∧ i < 150
    · obtain ⟨hlt, hi1⟩ := hlt
      have hltz : (i : Int) < (n : Int) := by omega
      have hi1z : (i : Int) < 150 := by omega
      have hil : i < L.length := by have := HN.out; omega
      obtain ⟨b, o, rfl, hcs⟩ := HAT.out (by omega)
      obtain ⟨-, q1, q2⟩ := hcs i hil
      obtain ⟨-, bf, bid⟩ := HBD.out _ (List.getElem_mem hil)
      obtain ⟨f, hf⟩ : ∃ f, f = L[i].2.1 := ⟨_, rfl⟩
      obtain ⟨id, hid⟩ : ∃ id, id = L[i].2.2 := ⟨_, rfl⟩
      rw [← hf] at q1 bf
      rw [← hid] at q2 bid
      have HC1 := hide q1
      have HC2 := hide q2
      have HBF : Hid (B64 f ∧ U64 id) := hide ⟨bf, bid⟩
      have HI150 := hide hi1
      have HW1 : Hid (wrap64 ((i : Int) + 1) = (i : Int) + 1) := by apply hide; rw [← IntWalk.i64_left, IntKind.wrap_i64]; omega
      clear hcs q1 q2 bf bid hf hid hil
      go_upto_region 10 with fail
      have hSig0 : RowKit.Below w.heap.size w wr.drew := by have := HS.out.bl; exact ⟨this.os, this.tape, this.output, this.size, this.block⟩
      have hS00 : SS w wr.drew sq r M0 i := by
        obtain ⟨F, mo, Z, v, L', hz, hrl⟩ := HS.out
        exact ⟨F, mo, Z, v, L', ⟨hz.s1.frame (Nat.le_refl _) fun _ _ => rfl, hz.r1.frame fun _ _ => rfl, hz.ln, hz.dj, hz.nf, hz.nr, hSig0⟩, hrl⟩
      refine wp_region_invF (β := Value × Value × Value × Value × Value × Value × Value × Value × Value × Value × Value × Value × Value × Value × Value × Value × Value × Value × Value × Value × Value × Value × Value × Value × Value) (fun a0 xq => (((((((((((((((((((((((((a0.put (some 29) (xq.1)).put (some 30) (xq.2.1)).put (some 31) (xq.2.2.1)).put (some 32) (xq.2.2.2.1)).put (some 33) (xq.2.2.2.2.1)).put (some 34) (xq.2.2.2.2.2.1)).put (some 35) (xq.2.2.2.2.2.2.1)).put (some 36) (xq.2.2.2.2.2.2.2.1)).put (some 37) (xq.2.2.2.2.2.2.2.2.1)).put (some 38) (xq.2.2.2.2.2.2.2.2.2.1)).put (some 39) (xq.2.2.2.2.2.2.2.2.2.2.1)).put (some 40) (xq.2.2.2.2.2.2.2.2.2.2.2.1)).put (some 41) (xq.2.2.2.2.2.2.2.2.2.2.2.2.1)).put (some 42) (xq.2.2.2.2.2.2.2.2.2.2.2.2.2.1)).put (some 43) (xq.2.2.2.2.2.2.2.2.2.2.2.2.2.2.1)).put (some 44) (xq.2.2.2.2.2.2.2.2.2.2.2.2.2.2.2.1)).put (some 45) (xq.2.2.2.2.2.2.2.2.2.2.2.2.2.2.2.2.1)).put (some 46) (xq.2.2.2.2.2.2.2.2.2.2.2.2.2.2.2.2.2.1)).put (some 47) (xq.2.2.2.2.2.2.2.2.2.2.2.2.2.2.2.2.2.2.1)).put (some 48) (xq.2.2.2.2.2.2.2.2.2.2.2.2.2.2.2.2.2.2.2.1)).put (some 49) (xq.2.2.2.2.2.2.2.2.2.2.2.2.2.2.2.2.2.2.2.2.1)).put (some 50) (xq.2.2.2.2.2.2.2.2.2.2.2.2.2.2.2.2.2.2.2.2.2.1)).put (some 51) (xq.2.2.2.2.2.2.2.2.2.2.2.2.2.2.2.2.2.2.2.2.2.2.1)).put (some 52) (xq.2.2.2.2.2.2.2.2.2.2.2.2.2.2.2.2.2.2.2.2.2.2.2.1)).put (some 53) (xq.2.2.2.2.2.2.2.2.2.2.2.2.2.2.2.2.2.2.2.2.2.2.2.2))) ?fr29 (fun xq d w' => (RowKit.Below w.heap.size w w') ∧ ((d 0 = true → (xq.1) = .pointer (some ⟨sq, 0, none⟩)) ∧ (d 1 = true → (xq.2.1) = .slice (some ⟨b, o, none⟩) n cap) ∧ (d 2 = true → (xq.2.2.1) = .int .i64 (i : Int)) ∧ (d 3 = true → (xq.2.2.2.1) = .pointer (some ⟨b, o + i * 44, none⟩)) ∧ (d 4 = true → (xq.2.2.2.2.1) = .pointer (some ⟨b, o + i * 44 + 1, none⟩)) ∧ (d 5 = true → (xq.2.2.2.2.2.1) = .int .i64 f) ∧ (d 6 = true → (xq.2.2.2.2.2.2.1) = .slice (some ⟨b, o, none⟩) n cap) ∧ (d 7 = true → (xq.2.2.2.2.2.2.2.1) = .int .i64 (i : Int)) ∧ (d 8 = true → (xq.2.2.2.2.2.2.2.2.1) = .pointer (some ⟨b, o + i * 44, none⟩)) ∧ (d 9 = true → (xq.2.2.2.2.2.2.2.2.2.1) = .pointer (some ⟨b, o + i * 44 + 2, none⟩)) ∧ (d 10 = true → (xq.2.2.2.2.2.2.2.2.2.2.1) = .int .u64 (id : Int)) ∧ (d 12 = true → (xq.2.2.2.2.2.2.2.2.2.2.2.2.1) = .pointer (some ⟨r, 0, none⟩)) ∧ (d 13 = true → (xq.2.2.2.2.2.2.2.2.2.2.2.2.2.1) = .slice (some ⟨b, o, none⟩) n cap) ∧ (d 14 = true → (xq.2.2.2.2.2.2.2.2.2.2.2.2.2.2.1) = .int .i64 (i : Int)) ∧ (d 15 = true → (xq.2.2.2.2.2.2.2.2.2.2.2.2.2.2.2.1) = .pointer (some ⟨b, o + i * 44, none⟩)) ∧ (d 16 = true → (xq.2.2.2.2.2.2.2.2.2.2.2.2.2.2.2.2.1) = .pointer (some ⟨b, o + i * 44 + 1, none⟩)) ∧ (d 17 = true → (xq.2.2.2.2.2.2.2.2.2.2.2.2.2.2.2.2.2.1) = .int .i64 f) ∧ (d 18 = true → (xq.2.2.2.2.2.2.2.2.2.2.2.2.2.2.2.2.2.2.1) = .slice (some ⟨b, o, none⟩) n cap) ∧ (d 19 = true → (xq.2.2.2.2.2.2.2.2.2.2.2.2.2.2.2.2.2.2.2.1) = .int .i64 (i : Int)) ∧ (d 20 = true → (xq.2.2.2.2.2.2.2.2.2.2.2.2.2.2.2.2.2.2.2.2.1) = .pointer (some ⟨b, o + i * 44, none⟩)) ∧ (d 21 = true → (xq.2.2.2.2.2.2.2.2.2.2.2.2.2.2.2.2.2.2.2.2.2.1) = .pointer (some ⟨b, o + i * 44 + 2, none⟩)) ∧ (d 22 = true → (xq.2.2.2.2.2.2.2.2.2.2.2.2.2.2.2.2.2.2.2.2.2.2.1) = .int .u64 (id : Int))) ∧ ∃ j : Nat, j ≤ 3 ∧ (d 11 = decide (0 < j) ∧ d 23 = decide (1 < j) ∧ d 24 = decide (2 < j)) ∧ ((j = 0 → SS w w' sq r M0 i) ∧ (j = 1 → ∃ b5, (xq.2.2.2.2.2.2.2.2.2.2.2.1) = .bool b5 ∧ S5 w w' sq r M0 i f id b5) ∧ (j = 2 → ∃ b5, (xq.2.2.2.2.2.2.2.2.2.2.2.1) = .bool b5 ∧ (xq.2.2.2.2.2.2.2.2.2.2.2.2.2.2.2.2.2.2.2.2.2.2.2.1) = .bool b5 ∧ SS w w' sq r M0 (i + 1)) ∧ (j = 3 → (xq.2.2.2.2.2.2.2.2.2.2.2.2.2.2.2.2.2.2.2.2.2.2.2.2) = .bool false ∧ SS w w' sq r M0 (i + 1)))) ?lay29 mixed (by kernel_rfl) ?h029 ?hs29 ?he29
      case lay29 =>
        intro xq
        simp only [Act.put, List.setIfInBounds_toArray, List.set_cons_zero, List.set_cons_succ]
        rfl
      case h029 =>
        refine ⟨(u29, u30, u31, u32, u33, u34, u35, u36, u37, u38, u39, u40, u41, u42, u43, u44, u45, u46, u47, u48, u49, u50, u51, u52, u53), rfl, ?sig29, ⟨(fun h => by cases h), (fun h => by cases h), (fun h => by cases h), (fun h => by cases h), (fun h => by cases h), (fun h => by cases h), (fun h => by cases h), (fun h => by cases h), (fun h => by cases h), (fun h => by cases h), (fun h => by cases h), (fun h => by cases h), (fun h => by cases h), (fun h => by cases h), (fun h => by cases h), (fun h => by cases h), (fun h => by cases h), (fun h => by cases h), (fun h => by cases h), (fun h => by cases h), (fun h => by cases h), (fun h => by cases h)⟩, 0, Nat.zero_le _, ⟨rfl, rfl, rfl⟩, ?S029, (fun h => by cases h), (fun h => by cases h), (fun h => by cases h)⟩
        case sig29 => exact hSig0
        case S029 => exact fun _ => hS00
      case hs29 =>
        refine ⟨?_, ?_, ?_, ?_, ?_, ?_, ?_, ?_, ?_, ?_, ?_, ?_, ?_, ?_, ?_, ?_, ?_, ?_, ?_, ?_, ?_, ?_, ?_, ?_, ?_, trivial⟩
        · rintro d ⟨x29, x30, x31, x32, x33, x34, x35, x36, x37, x38, x39, x40, x41, x42, x43, x44, x45, x46, x47, x48, x49, x50, x51, x52, x53⟩ w' hI hd hdp KQ hK
          dsimp only at hI
          obtain ⟨hS, ⟨f0, f1, f2, f3, f4, f5, f6, f7, f8, f9, f10, f12, f13, f14, f15, f16, f17, f18, f19, f20, f21, f22⟩, j, hj, ⟨dd11, dd23, dd24⟩, ⟨p0, p1, p2, p3⟩⟩ := hI
          have HF : Hid _ := And.intro hS (And.intro (And.intro f0 (And.intro f1 (And.intro f2 (And.intro f3 (And.intro f4 (And.intro f5 (And.intro f6 (And.intro f7 (And.intro f8 (And.intro f9 (And.intro f10 (And.intro f12 (And.intro f13 (And.intro f14 (And.intro f15 (And.intro f16 (And.intro f17 (And.intro f18 (And.intro f19 (And.intro f20 (And.intro f21 f22))))))))))))))))))))) (And.intro hj (And.intro (And.intro dd11 (And.intro dd23 dd24)) (And.intro p0 (And.intro p1 (And.intro p2 p3))))))
          clear hS f0 f1 f2 f3 f4 f5 f6 f7 f8 f9 f10 f12 f13 f14 f15 f16 f17 f18 f19 f20 f21 f22 hj dd11 dd23 dd24 p0 p1 p2 p3 hdp hd
          refine Opn.mk ?_
          dsimp only
          go_simp
          obtain ⟨hS, ⟨f0, f1, f2, f3, f4, f5, f6, f7, f8, f9, f10, f12, f13, f14, f15, f16, f17, f18, f19, f20, f21, f22⟩, hj, ⟨dd11, dd23, dd24⟩, ⟨p0, p1, p2, p3⟩⟩ := HF.out
          exact hK.out (.pointer (some ⟨sq, 0, none⟩), x30, x31, x32, x33, x34, x35, x36, x37, x38, x39, x40, x41, x42, x43, x44, x45, x46, x47, x48, x49, x50, x51, x52, x53) _ ⟨hS, ⟨(fun _ => rfl), (fun h => f1 (upd_ne h (by decide))), (fun h => f2 (upd_ne h (by decide))), (fun h => f3 (upd_ne h (by decide))), (fun h => f4 (upd_ne h (by decide))), (fun h => f5 (upd_ne h (by decide))), (fun h => f6 (upd_ne h (by decide))), (fun h => f7 (upd_ne h (by decide))), (fun h => f8 (upd_ne h (by decide))), (fun h => f9 (upd_ne h (by decide))), (fun h => f10 (upd_ne h (by decide))), (fun h => f12 (upd_ne h (by decide))), (fun h => f13 (upd_ne h (by decide))), (fun h => f14 (upd_ne h (by decide))), (fun h => f15 (upd_ne h (by decide))), (fun h => f16 (upd_ne h (by decide))), (fun h => f17 (upd_ne h (by decide))), (fun h => f18 (upd_ne h (by decide))), (fun h => f19 (upd_ne h (by decide))), (fun h => f20 (upd_ne h (by decide))), (fun h => f21 (upd_ne h (by decide))), (fun h => f22 (upd_ne h (by decide)))⟩, j, hj, ⟨((upd_no (by decide)).trans dd11), ((upd_no (by decide)).trans dd23), ((upd_no (by decide)).trans dd24)⟩, ⟨p0, p1, p2, p3⟩⟩
        · rintro d ⟨x29, x30, x31, x32, x33, x34, x35, x36, x37, x38, x39, x40, x41, x42, x43, x44, x45, x46, x47, x48, x49, x50, x51, x52, x53⟩ w' hI hd hdp KQ hK
          dsimp only at hI
          obtain ⟨hS, ⟨f0, f1, f2, f3, f4, f5, f6, f7, f8, f9, f10, f12, f13, f14, f15, f16, f17, f18, f19, f20, f21, f22⟩, j, hj, ⟨dd11, dd23, dd24⟩, ⟨p0, p1, p2, p3⟩⟩ := hI
          have HF : Hid _ := And.intro hS (And.intro (And.intro f0 (And.intro f1 (And.intro f2 (And.intro f3 (And.intro f4 (And.intro f5 (And.intro f6 (And.intro f7 (And.intro f8 (And.intro f9 (And.intro f10 (And.intro f12 (And.intro f13 (And.intro f14 (And.intro f15 (And.intro f16 (And.intro f17 (And.intro f18 (And.intro f19 (And.intro f20 (And.intro f21 f22))))))))))))))))))))) (And.intro hj (And.intro (And.intro dd11 (And.intro dd23 dd24)) (And.intro p0 (And.intro p1 (And.intro p2 p3))))))
          clear hS f0 f1 f2 f3 f4 f5 f6 f7 f8 f9 f10 f12 f13 f14 f15 f16 f17 f18 f19 f20 f21 f22 hj dd11 dd23 dd24 p0 p1 p2 p3 hdp hd
          refine Opn.mk ?_
          dsimp only
          go_simp
          obtain ⟨hS, ⟨f0, f1, f2, f3, f4, f5, f6, f7, f8, f9, f10, f12, f13, f14, f15, f16, f17, f18, f19, f20, f21, f22⟩, hj, ⟨dd11, dd23, dd24⟩, ⟨p0, p1, p2, p3⟩⟩ := HF.out
          exact hK.out (x29, .slice (some ⟨b, o, none⟩) n cap, x31, x32, x33, x34, x35, x36, x37, x38, x39, x40, x41, x42, x43, x44, x45, x46, x47, x48, x49, x50, x51, x52, x53) _ ⟨hS, ⟨(fun h => f0 (upd_ne h (by decide))), (fun _ => rfl), (fun h => f2 (upd_ne h (by decide))), (fun h => f3 (upd_ne h (by decide))), (fun h => f4 (upd_ne h (by decide))), (fun h => f5 (upd_ne h (by decide))), (fun h => f6 (upd_ne h (by decide))), (fun h => f7 (upd_ne h (by decide))), (fun h => f8 (upd_ne h (by decide))), (fun h => f9 (upd_ne h (by decide))), (fun h => f10 (upd_ne h (by decide))), (fun h => f12 (upd_ne h (by decide))), (fun h => f13 (upd_ne h (by decide))), (fun h => f14 (upd_ne h (by decide))), (fun h => f15 (upd_ne h (by decide))), (fun h => f16 (upd_ne h (by decide))), (fun h => f17 (upd_ne h (by decide))), (fun h => f18 (upd_ne h (by decide))), (fun h => f19 (upd_ne h (by decide))), (fun h => f20 (upd_ne h (by decide))), (fun h => f21 (upd_ne h (by decide))), (fun h => f22 (upd_ne h (by decide)))⟩, j, hj, ⟨((upd_no (by decide)).trans dd11), ((upd_no (by decide)).trans dd23), ((upd_no (by decide)).trans dd24)⟩, ⟨p0, p1, p2, p3⟩⟩
        · rintro d ⟨x29, x30, x31, x32, x33, x34, x35, x36, x37, x38, x39, x40, x41, x42, x43, x44, x45, x46, x47, x48, x49, x50, x51, x52, x53⟩ w' hI hd hdp KQ hK
          dsimp only at hI
          obtain ⟨hS, ⟨f0, f1, f2, f3, f4, f5, f6, f7, f8, f9, f10, f12, f13, f14, f15, f16, f17, f18, f19, f20, f21, f22⟩, j, hj, ⟨dd11, dd23, dd24⟩, ⟨p0, p1, p2, p3⟩⟩ := hI
          have HF : Hid _ := And.intro hS (And.intro (And.intro f0 (And.intro f1 (And.intro f2 (And.intro f3 (And.intro f4 (And.intro f5 (And.intro f6 (And.intro f7 (And.intro f8 (And.intro f9 (And.intro f10 (And.intro f12 (And.intro f13 (And.intro f14 (And.intro f15 (And.intro f16 (And.intro f17 (And.intro f18 (And.intro f19 (And.intro f20 (And.intro f21 f22))))))))))))))))))))) (And.intro hj (And.intro (And.intro dd11 (And.intro dd23 dd24)) (And.intro p0 (And.intro p1 (And.intro p2 p3))))))
          clear hS f0 f1 f2 f3 f4 f5 f6 f7 f8 f9 f10 f12 f13 f14 f15 f16 f17 f18 f19 f20 f21 f22 hj dd11 dd23 dd24 p0 p1 p2 p3 hdp hd
          refine Opn.mk ?_
          dsimp only
          go_simp
          obtain ⟨hS, ⟨f0, f1, f2, f3, f4, f5, f6, f7, f8, f9, f10, f12, f13, f14, f15, f16, f17, f18, f19, f20, f21, f22⟩, hj, ⟨dd11, dd23, dd24⟩, ⟨p0, p1, p2, p3⟩⟩ := HF.out
          exact hK.out (x29, x30, .int .i64 (i : Int), x32, x33, x34, x35, x36, x37, x38, x39, x40, x41, x42, x43, x44, x45, x46, x47, x48, x49, x50, x51, x52, x53) _ ⟨hS, ⟨(fun h => f0 (upd_ne h (by decide))), (fun h => f1 (upd_ne h (by decide))), (fun _ => rfl), (fun h => f3 (upd_ne h (by decide))), (fun h => f4 (upd_ne h (by decide))), (fun h => f5 (upd_ne h (by decide))), (fun h => f6 (upd_ne h (by decide))), (fun h => f7 (upd_ne h (by decide))), (fun h => f8 (upd_ne h (by decide))), (fun h => f9 (upd_ne h (by decide))), (fun h => f10 (upd_ne h (by decide))), (fun h => f12 (upd_ne h (by decide))), (fun h => f13 (upd_ne h (by decide))), (fun h => f14 (upd_ne h (by decide))), (fun h => f15 (upd_ne h (by decide))), (fun h => f16 (upd_ne h (by decide))), (fun h => f17 (upd_ne h (by decide))), (fun h => f18 (upd_ne h (by decide))), (fun h => f19 (upd_ne h (by decide))), (fun h => f20 (upd_ne h (by decide))), (fun h => f21 (upd_ne h (by decide))), (fun h => f22 (upd_ne h (by decide)))⟩, j, hj, ⟨((upd_no (by decide)).trans dd11), ((upd_no (by decide)).trans dd23), ((upd_no (by decide)).trans dd24)⟩, ⟨p0, p1, p2, p3⟩⟩
        · rintro d ⟨x29, x30, x31, x32, x33, x34, x35, x36, x37, x38, x39, x40, x41, x42, x43, x44, x45, x46, x47, x48, x49, x50, x51, x52, x53⟩ w' hI hd hdp KQ hK
          dsimp only at hI
          obtain ⟨hS, ⟨f0, f1, f2, f3, f4, f5, f6, f7, f8, f9, f10, f12, f13, f14, f15, f16, f17, f18, f19, f20, f21, f22⟩, j, hj, ⟨dd11, dd23, dd24⟩, ⟨p0, p1, p2, p3⟩⟩ := hI
          obtain rfl := f1 (hdp 1 (by decide +kernel))
          obtain rfl := f2 (hdp 2 (by decide +kernel))
          have HF : Hid _ := And.intro hS (And.intro (And.intro f0 (And.intro f1 (And.intro f2 (And.intro f3 (And.intro f4 (And.intro f5 (And.intro f6 (And.intro f7 (And.intro f8 (And.intro f9 (And.intro f10 (And.intro f12 (And.intro f13 (And.intro f14 (And.intro f15 (And.intro f16 (And.intro f17 (And.intro f18 (And.intro f19 (And.intro f20 (And.intro f21 f22))))))))))))))))))))) (And.intro hj (And.intro (And.intro dd11 (And.intro dd23 dd24)) (And.intro p0 (And.intro p1 (And.intro p2 p3))))))
          clear hS f0 f1 f2 f3 f4 f5 f6 f7 f8 f9 f10 f12 f13 f14 f15 f16 f17 f18 f19 f20 f21 f22 hj dd11 dd23 dd24 p0 p1 p2 p3 hdp hd
          refine Opn.mk ?_
          dsimp only
          go_simp
          obtain ⟨hS, ⟨f0, f1, f2, f3, f4, f5, f6, f7, f8, f9, f10, f12, f13, f14, f15, f16, f17, f18, f19, f20, f21, f22⟩, hj, ⟨dd11, dd23, dd24⟩, ⟨p0, p1, p2, p3⟩⟩ := HF.out
          exact hK.out (x29, .slice (some ⟨b, o, none⟩) n cap, .int .i64 (i : Int), .pointer (some ⟨b, o + i * 44, none⟩), x33, x34, x35, x36, x37, x38, x39, x40, x41, x42, x43, x44, x45, x46, x47, x48, x49, x50, x51, x52, x53) _ ⟨hS, ⟨(fun h => f0 (upd_ne h (by decide))), (fun _ => rfl), (fun _ => rfl), (fun _ => rfl), (fun h => f4 (upd_ne h (by decide))), (fun h => f5 (upd_ne h (by decide))), (fun h => f6 (upd_ne h (by decide))), (fun h => f7 (upd_ne h (by decide))), (fun h => f8 (upd_ne h (by decide))), (fun h => f9 (upd_ne h (by decide))), (fun h => f10 (upd_ne h (by decide))), (fun h => f12 (upd_ne h (by decide))), (fun h => f13 (upd_ne h (by decide))), (fun h => f14 (upd_ne h (by decide))), (fun h => f15 (upd_ne h (by decide))), (fun h => f16 (upd_ne h (by decide))), (fun h => f17 (upd_ne h (by decide))), (fun h => f18 (upd_ne h (by decide))), (fun h => f19 (upd_ne h (by decide))), (fun h => f20 (upd_ne h (by decide))), (fun h => f21 (upd_ne h (by decide))), (fun h => f22 (upd_ne h (by decide)))⟩, j, hj, ⟨((upd_no (by decide)).trans dd11), ((upd_no (by decide)).trans dd23), ((upd_no (by decide)).trans dd24)⟩, ⟨p0, p1, p2, p3⟩⟩
        · rintro d ⟨x29, x30, x31, x32, x33, x34, x35, x36, x37, x38, x39, x40, x41, x42, x43, x44, x45, x46, x47, x48, x49, x50, x51, x52, x53⟩ w' hI hd hdp KQ hK
          dsimp only at hI
          obtain ⟨hS, ⟨f0, f1, f2, f3, f4, f5, f6, f7, f8, f9, f10, f12, f13, f14, f15, f16, f17, f18, f19, f20, f21, f22⟩, j, hj, ⟨dd11, dd23, dd24⟩, ⟨p0, p1, p2, p3⟩⟩ := hI
          obtain rfl := f3 (hdp 3 (by decide +kernel))
          have HF : Hid _ := And.intro hS (And.intro (And.intro f0 (And.intro f1 (And.intro f2 (And.intro f3 (And.intro f4 (And.intro f5 (And.intro f6 (And.intro f7 (And.intro f8 (And.intro f9 (And.intro f10 (And.intro f12 (And.intro f13 (And.intro f14 (And.intro f15 (And.intro f16 (And.intro f17 (And.intro f18 (And.intro f19 (And.intro f20 (And.intro f21 f22))))))))))))))))))))) (And.intro hj (And.intro (And.intro dd11 (And.intro dd23 dd24)) (And.intro p0 (And.intro p1 (And.intro p2 p3))))))
          clear hS f0 f1 f2 f3 f4 f5 f6 f7 f8 f9 f10 f12 f13 f14 f15 f16 f17 f18 f19 f20 f21 f22 hj dd11 dd23 dd24 p0 p1 p2 p3 hdp hd
          refine Opn.mk ?_
          dsimp only
          go_simp
          obtain ⟨hS, ⟨f0, f1, f2, f3, f4, f5, f6, f7, f8, f9, f10, f12, f13, f14, f15, f16, f17, f18, f19, f20, f21, f22⟩, hj, ⟨dd11, dd23, dd24⟩, ⟨p0, p1, p2, p3⟩⟩ := HF.out
          exact hK.out (x29, x30, x31, .pointer (some ⟨b, o + i * 44, none⟩), .pointer (some ⟨b, o + i * 44 + 1, none⟩), x34, x35, x36, x37, x38, x39, x40, x41, x42, x43, x44, x45, x46, x47, x48, x49, x50, x51, x52, x53) _ ⟨hS, ⟨(fun h => f0 (upd_ne h (by decide))), (fun h => f1 (upd_ne h (by decide))), (fun h => f2 (upd_ne h (by decide))), (fun _ => rfl), (fun _ => rfl), (fun h => f5 (upd_ne h (by decide))), (fun h => f6 (upd_ne h (by decide))), (fun h => f7 (upd_ne h (by decide))), (fun h => f8 (upd_ne h (by decide))), (fun h => f9 (upd_ne h (by decide))), (fun h => f10 (upd_ne h (by decide))), (fun h => f12 (upd_ne h (by decide))), (fun h => f13 (upd_ne h (by decide))), (fun h => f14 (upd_ne h (by decide))), (fun h => f15 (upd_ne h (by decide))), (fun h => f16 (upd_ne h (by decide))), (fun h => f17 (upd_ne h (by decide))), (fun h => f18 (upd_ne h (by decide))), (fun h => f19 (upd_ne h (by decide))), (fun h => f20 (upd_ne h (by decide))), (fun h => f21 (upd_ne h (by decide))), (fun h => f22 (upd_ne h (by decide)))⟩, j, hj, ⟨((upd_no (by decide)).trans dd11), ((upd_no (by decide)).trans dd23), ((upd_no (by decide)).trans dd24)⟩, ⟨p0, p1, p2, p3⟩⟩
        · rintro d ⟨x29, x30, x31, x32, x33, x34, x35, x36, x37, x38, x39, x40, x41, x42, x43, x44, x45, x46, x47, x48, x49, x50, x51, x52, x53⟩ w' hI hd hdp KQ hK
          dsimp only at hI
          obtain ⟨hS, ⟨f0, f1, f2, f3, f4, f5, f6, f7, f8, f9, f10, f12, f13, f14, f15, f16, f17, f18, f19, f20, f21, f22⟩, j, hj, ⟨dd11, dd23, dd24⟩, ⟨p0, p1, p2, p3⟩⟩ := hI
          obtain rfl := f4 (hdp 4 (by decide +kernel))
          have cc : w'.cell? ⟨b, o + i * 44 + 1, none⟩ = some (.int .i64 f) := by rw [hS.cell (World.block_lt_of_cell? _ _ HC1.out)]; exact HC1.out
          have HF : Hid _ := And.intro hS (And.intro (And.intro f0 (And.intro f1 (And.intro f2 (And.intro f3 (And.intro f4 (And.intro f5 (And.intro f6 (And.intro f7 (And.intro f8 (And.intro f9 (And.intro f10 (And.intro f12 (And.intro f13 (And.intro f14 (And.intro f15 (And.intro f16 (And.intro f17 (And.intro f18 (And.intro f19 (And.intro f20 (And.intro f21 f22))))))))))))))))))))) (And.intro hj (And.intro (And.intro dd11 (And.intro dd23 dd24)) (And.intro p0 (And.intro p1 (And.intro p2 p3))))))
          clear hS f0 f1 f2 f3 f4 f5 f6 f7 f8 f9 f10 f12 f13 f14 f15 f16 f17 f18 f19 f20 f21 f22 hj dd11 dd23 dd24 p0 p1 p2 p3 hdp hd
          refine Opn.mk ?_
          dsimp only
          go_simp
          obtain ⟨hS, ⟨f0, f1, f2, f3, f4, f5, f6, f7, f8, f9, f10, f12, f13, f14, f15, f16, f17, f18, f19, f20, f21, f22⟩, hj, ⟨dd11, dd23, dd24⟩, ⟨p0, p1, p2, p3⟩⟩ := HF.out
          exact hK.out (x29, x30, x31, x32, .pointer (some ⟨b, o + i * 44 + 1, none⟩), .int .i64 f, x35, x36, x37, x38, x39, x40, x41, x42, x43, x44, x45, x46, x47, x48, x49, x50, x51, x52, x53) _ ⟨hS, ⟨(fun h => f0 (upd_ne h (by decide))), (fun h => f1 (upd_ne h (by decide))), (fun h => f2 (upd_ne h (by decide))), (fun h => f3 (upd_ne h (by decide))), (fun _ => rfl), (fun _ => rfl), (fun h => f6 (upd_ne h (by decide))), (fun h => f7 (upd_ne h (by decide))), (fun h => f8 (upd_ne h (by decide))), (fun h => f9 (upd_ne h (by decide))), (fun h => f10 (upd_ne h (by decide))), (fun h => f12 (upd_ne h (by decide))), (fun h => f13 (upd_ne h (by decide))), (fun h => f14 (upd_ne h (by decide))), (fun h => f15 (upd_ne h (by decide))), (fun h => f16 (upd_ne h (by decide))), (fun h => f17 (upd_ne h (by decide))), (fun h => f18 (upd_ne h (by decide))), (fun h => f19 (upd_ne h (by decide))), (fun h => f20 (upd_ne h (by decide))), (fun h => f21 (upd_ne h (by decide))), (fun h => f22 (upd_ne h (by decide)))⟩, j, hj, ⟨((upd_no (by decide)).trans dd11), ((upd_no (by decide)).trans dd23), ((upd_no (by decide)).trans dd24)⟩, ⟨p0, p1, p2, p3⟩⟩
        · rintro d ⟨x29, x30, x31, x32, x33, x34, x35, x36, x37, x38, x39, x40, x41, x42, x43, x44, x45, x46, x47, x48, x49, x50, x51, x52, x53⟩ w' hI hd hdp KQ hK
          dsimp only at hI
          obtain ⟨hS, ⟨f0, f1, f2, f3, f4, f5, f6, f7, f8, f9, f10, f12, f13, f14, f15, f16, f17, f18, f19, f20, f21, f22⟩, j, hj, ⟨dd11, dd23, dd24⟩, ⟨p0, p1, p2, p3⟩⟩ := hI
          have HF : Hid _ := And.intro hS (And.intro (And.intro f0 (And.intro f1 (And.intro f2 (And.intro f3 (And.intro f4 (And.intro f5 (And.intro f6 (And.intro f7 (And.intro f8 (And.intro f9 (And.intro f10 (And.intro f12 (And.intro f13 (And.intro f14 (And.intro f15 (And.intro f16 (And.intro f17 (And.intro f18 (And.intro f19 (And.intro f20 (And.intro f21 f22))))))))))))))))))))) (And.intro hj (And.intro (And.intro dd11 (And.intro dd23 dd24)) (And.intro p0 (And.intro p1 (And.intro p2 p3))))))
          clear hS f0 f1 f2 f3 f4 f5 f6 f7 f8 f9 f10 f12 f13 f14 f15 f16 f17 f18 f19 f20 f21 f22 hj dd11 dd23 dd24 p0 p1 p2 p3 hdp hd
          refine Opn.mk ?_
          dsimp only
          go_simp
          obtain ⟨hS, ⟨f0, f1, f2, f3, f4, f5, f6, f7, f8, f9, f10, f12, f13, f14, f15, f16, f17, f18, f19, f20, f21, f22⟩, hj, ⟨dd11, dd23, dd24⟩, ⟨p0, p1, p2, p3⟩⟩ := HF.out
          exact hK.out (x29, x30, x31, x32, x33, x34, .slice (some ⟨b, o, none⟩) n cap, x36, x37, x38, x39, x40, x41, x42, x43, x44, x45, x46, x47, x48, x49, x50, x51, x52, x53) _ ⟨hS, ⟨(fun h => f0 (upd_ne h (by decide))), (fun h => f1 (upd_ne h (by decide))), (fun h => f2 (upd_ne h (by decide))), (fun h => f3 (upd_ne h (by decide))), (fun h => f4 (upd_ne h (by decide))), (fun h => f5 (upd_ne h (by decide))), (fun _ => rfl), (fun h => f7 (upd_ne h (by decide))), (fun h => f8 (upd_ne h (by decide))), (fun h => f9 (upd_ne h (by decide))), (fun h => f10 (upd_ne h (by decide))), (fun h => f12 (upd_ne h (by decide))), (fun h => f13 (upd_ne h (by decide))), (fun h => f14 (upd_ne h (by decide))), (fun h => f15 (upd_ne h (by decide))), (fun h => f16 (upd_ne h (by decide))), (fun h => f17 (upd_ne h (by decide))), (fun h => f18 (upd_ne h (by decide))), (fun h => f19 (upd_ne h (by decide))), (fun h => f20 (upd_ne h (by decide))), (fun h => f21 (upd_ne h (by decide))), (fun h => f22 (upd_ne h (by decide)))⟩, j, hj, ⟨((upd_no (by decide)).trans dd11), ((upd_no (by decide)).trans dd23), ((upd_no (by decide)).trans dd24)⟩, ⟨p0, p1, p2, p3⟩⟩
        · rintro d ⟨x29, x30, x31, x32, x33, x34, x35, x36, x37, x38, x39, x40, x41, x42, x43, x44, x45, x46, x47, x48, x49, x50, x51, x52, x53⟩ w' hI hd hdp KQ hK
          dsimp only at hI
          obtain ⟨hS, ⟨f0, f1, f2, f3, f4, f5, f6, f7, f8, f9, f10, f12, f13, f14, f15, f16, f17, f18, f19, f20, f21, f22⟩, j, hj, ⟨dd11, dd23, dd24⟩, ⟨p0, p1, p2, p3⟩⟩ := hI
          have HF : Hid _ := And.intro hS (And.intro (And.intro f0 (And.intro f1 (And.intro f2 (And.intro f3 (And.intro f4 (And.intro f5 (And.intro f6 (And.intro f7 (And.intro f8 (And.intro f9 (And.intro f10 (And.intro f12 (And.intro f13 (And.intro f14 (And.intro f15 (And.intro f16 (And.intro f17 (And.intro f18 (And.intro f19 (And.intro f20 (And.intro f21 f22))))))))))))))))))))) (And.intro hj (And.intro (And.intro dd11 (And.intro dd23 dd24)) (And.intro p0 (And.intro p1 (And.intro p2 p3))))))
          clear hS f0 f1 f2 f3 f4 f5 f6 f7 f8 f9 f10 f12 f13 f14 f15 f16 f17 f18 f19 f20 f21 f22 hj dd11 dd23 dd24 p0 p1 p2 p3 hdp hd
          refine Opn.mk ?_
          dsimp only
          go_simp
          obtain ⟨hS, ⟨f0, f1, f2, f3, f4, f5, f6, f7, f8, f9, f10, f12, f13, f14, f15, f16, f17, f18, f19, f20, f21, f22⟩, hj, ⟨dd11, dd23, dd24⟩, ⟨p0, p1, p2, p3⟩⟩ := HF.out
          exact hK.out (x29, x30, x31, x32, x33, x34, x35, .int .i64 (i : Int), x37, x38, x39, x40, x41, x42, x43, x44, x45, x46, x47, x48, x49, x50, x51, x52, x53) _ ⟨hS, ⟨(fun h => f0 (upd_ne h (by decide))), (fun h => f1 (upd_ne h (by decide))), (fun h => f2 (upd_ne h (by decide))), (fun h => f3 (upd_ne h (by decide))), (fun h => f4 (upd_ne h (by decide))), (fun h => f5 (upd_ne h (by decide))), (fun h => f6 (upd_ne h (by decide))), (fun _ => rfl), (fun h => f8 (upd_ne h (by decide))), (fun h => f9 (upd_ne h (by decide))), (fun h => f10 (upd_ne h (by decide))), (fun h => f12 (upd_ne h (by decide))), (fun h => f13 (upd_ne h (by decide))), (fun h => f14 (upd_ne h (by decide))), (fun h => f15 (upd_ne h (by decide))), (fun h => f16 (upd_ne h (by decide))), (fun h => f17 (upd_ne h (by decide))), (fun h => f18 (upd_ne h (by decide))), (fun h => f19 (upd_ne h (by decide))), (fun h => f20 (upd_ne h (by decide))), (fun h => f21 (upd_ne h (by decide))), (fun h => f22 (upd_ne h (by decide)))⟩, j, hj, ⟨((upd_no (by decide)).trans dd11), ((upd_no (by decide)).trans dd23), ((upd_no (by decide)).trans dd24)⟩, ⟨p0, p1, p2, p3⟩⟩
        · rintro d ⟨x29, x30, x31, x32, x33, x34, x35, x36, x37, x38, x39, x40, x41, x42, x43, x44, x45, x46, x47, x48, x49, x50, x51, x52, x53⟩ w' hI hd hdp KQ hK
          dsimp only at hI
          obtain ⟨hS, ⟨f0, f1, f2, f3, f4, f5, f6, f7, f8, f9, f10, f12, f13, f14, f15, f16, f17, f18, f19, f20, f21, f22⟩, j, hj, ⟨dd11, dd23, dd24⟩, ⟨p0, p1, p2, p3⟩⟩ := hI
          obtain rfl := f6 (hdp 6 (by decide +kernel))
          obtain rfl := f7 (hdp 7 (by decide +kernel))
          have HF : Hid _ := And.intro hS (And.intro (And.intro f0 (And.intro f1 (And.intro f2 (And.intro f3 (And.intro f4 (And.intro f5 (And.intro f6 (And.intro f7 (And.intro f8 (And.intro f9 (And.intro f10 (And.intro f12 (And.intro f13 (And.intro f14 (And.intro f15 (And.intro f16 (And.intro f17 (And.intro f18 (And.intro f19 (And.intro f20 (And.intro f21 f22))))))))))))))))))))) (And.intro hj (And.intro (And.intro dd11 (And.intro dd23 dd24)) (And.intro p0 (And.intro p1 (And.intro p2 p3))))))
          clear hS f0 f1 f2 f3 f4 f5 f6 f7 f8 f9 f10 f12 f13 f14 f15 f16 f17 f18 f19 f20 f21 f22 hj dd11 dd23 dd24 p0 p1 p2 p3 hdp hd
          refine Opn.mk ?_
          dsimp only
          go_simp
          obtain ⟨hS, ⟨f0, f1, f2, f3, f4, f5, f6, f7, f8, f9, f10, f12, f13, f14, f15, f16, f17, f18, f19, f20, f21, f22⟩, hj, ⟨dd11, dd23, dd24⟩, ⟨p0, p1, p2, p3⟩⟩ := HF.out
          exact hK.out (x29, x30, x31, x32, x33, x34, .slice (some ⟨b, o, none⟩) n cap, .int .i64 (i : Int), .pointer (some ⟨b, o + i * 44, none⟩), x38, x39, x40, x41, x42, x43, x44, x45, x46, x47, x48, x49, x50, x51, x52, x53) _ ⟨hS, ⟨(fun h => f0 (upd_ne h (by decide))), (fun h => f1 (upd_ne h (by decide))), (fun h => f2 (upd_ne h (by decide))), (fun h => f3 (upd_ne h (by decide))), (fun h => f4 (upd_ne h (by decide))), (fun h => f5 (upd_ne h (by decide))), (fun _ => rfl), (fun _ => rfl), (fun _ => rfl), (fun h => f9 (upd_ne h (by decide))), (fun h => f10 (upd_ne h (by decide))), (fun h => f12 (upd_ne h (by decide))), (fun h => f13 (upd_ne h (by decide))), (fun h => f14 (upd_ne h (by decide))), (fun h => f15 (upd_ne h (by decide))), (fun h => f16 (upd_ne h (by decide))), (fun h => f17 (upd_ne h (by decide))), (fun h => f18 (upd_ne h (by decide))), (fun h => f19 (upd_ne h (by decide))), (fun h => f20 (upd_ne h (by decide))), (fun h => f21 (upd_ne h (by decide))), (fun h => f22 (upd_ne h (by decide)))⟩, j, hj, ⟨((upd_no (by decide)).trans dd11), ((upd_no (by decide)).trans dd23), ((upd_no (by decide)).trans dd24)⟩, ⟨p0, p1, p2, p3⟩⟩
        · rintro d ⟨x29, x30, x31, x32, x33, x34, x35, x36, x37, x38, x39, x40, x41, x42, x43, x44, x45, x46, x47, x48, x49, x50, x51, x52, x53⟩ w' hI hd hdp KQ hK
          dsimp only at hI
          obtain ⟨hS, ⟨f0, f1, f2, f3, f4, f5, f6, f7, f8, f9, f10, f12, f13, f14, f15, f16, f17, f18, f19, f20, f21, f22⟩, j, hj, ⟨dd11, dd23, dd24⟩, ⟨p0, p1, p2, p3⟩⟩ := hI
          obtain rfl := f8 (hdp 8 (by decide +kernel))
          have HF : Hid _ := And.intro hS (And.intro (And.intro f0 (And.intro f1 (And.intro f2 (And.intro f3 (And.intro f4 (And.intro f5 (And.intro f6 (And.intro f7 (And.intro f8 (And.intro f9 (And.intro f10 (And.intro f12 (And.intro f13 (And.intro f14 (And.intro f15 (And.intro f16 (And.intro f17 (And.intro f18 (And.intro f19 (And.intro f20 (And.intro f21 f22))))))))))))))))))))) (And.intro hj (And.intro (And.intro dd11 (And.intro dd23 dd24)) (And.intro p0 (And.intro p1 (And.intro p2 p3))))))
          clear hS f0 f1 f2 f3 f4 f5 f6 f7 f8 f9 f10 f12 f13 f14 f15 f16 f17 f18 f19 f20 f21 f22 hj dd11 dd23 dd24 p0 p1 p2 p3 hdp hd
          refine Opn.mk ?_
          dsimp only
          go_simp
          obtain ⟨hS, ⟨f0, f1, f2, f3, f4, f5, f6, f7, f8, f9, f10, f12, f13, f14, f15, f16, f17, f18, f19, f20, f21, f22⟩, hj, ⟨dd11, dd23, dd24⟩, ⟨p0, p1, p2, p3⟩⟩ := HF.out
          exact hK.out (x29, x30, x31, x32, x33, x34, x35, x36, .pointer (some ⟨b, o + i * 44, none⟩), .pointer (some ⟨b, o + i * 44 + 2, none⟩), x39, x40, x41, x42, x43, x44, x45, x46, x47, x48, x49, x50, x51, x52, x53) _ ⟨hS, ⟨(fun h => f0 (upd_ne h (by decide))), (fun h => f1 (upd_ne h (by decide))), (fun h => f2 (upd_ne h (by decide))), (fun h => f3 (upd_ne h (by decide))), (fun h => f4 (upd_ne h (by decide))), (fun h => f5 (upd_ne h (by decide))), (fun h => f6 (upd_ne h (by decide))), (fun h => f7 (upd_ne h (by decide))), (fun _ => rfl), (fun _ => rfl), (fun h => f10 (upd_ne h (by decide))), (fun h => f12 (upd_ne h (by decide))), (fun h => f13 (upd_ne h (by decide))), (fun h => f14 (upd_ne h (by decide))), (fun h => f15 (upd_ne h (by decide))), (fun h => f16 (upd_ne h (by decide))), (fun h => f17 (upd_ne h (by decide))), (fun h => f18 (upd_ne h (by decide))), (fun h => f19 (upd_ne h (by decide))), (fun h => f20 (upd_ne h (by decide))), (fun h => f21 (upd_ne h (by decide))), (fun h => f22 (upd_ne h (by decide)))⟩, j, hj, ⟨((upd_no (by decide)).trans dd11), ((upd_no (by decide)).trans dd23), ((upd_no (by decide)).trans dd24)⟩, ⟨p0, p1, p2, p3⟩⟩
        · rintro d ⟨x29, x30, x31, x32, x33, x34, x35, x36, x37, x38, x39, x40, x41, x42, x43, x44, x45, x46, x47, x48, x49, x50, x51, x52, x53⟩ w' hI hd hdp KQ hK
          dsimp only at hI
          obtain ⟨hS, ⟨f0, f1, f2, f3, f4, f5, f6, f7, f8, f9, f10, f12, f13, f14, f15, f16, f17, f18, f19, f20, f21, f22⟩, j, hj, ⟨dd11, dd23, dd24⟩, ⟨p0, p1, p2, p3⟩⟩ := hI
          obtain rfl := f9 (hdp 9 (by decide +kernel))
          have cc : w'.cell? ⟨b, o + i * 44 + 2, none⟩ = some (.int .u64 (id : Int)) := by rw [hS.cell (World.block_lt_of_cell? _ _ HC2.out)]; exact HC2.out
          have HF : Hid _ := And.intro hS (And.intro (And.intro f0 (And.intro f1 (And.intro f2 (And.intro f3 (And.intro f4 (And.intro f5 (And.intro f6 (And.intro f7 (And.intro f8 (And.intro f9 (And.intro f10 (And.intro f12 (And.intro f13 (And.intro f14 (And.intro f15 (And.intro f16 (And.intro f17 (And.intro f18 (And.intro f19 (And.intro f20 (And.intro f21 f22))))))))))))))))))))) (And.intro hj (And.intro (And.intro dd11 (And.intro dd23 dd24)) (And.intro p0 (And.intro p1 (And.intro p2 p3))))))
          clear hS f0 f1 f2 f3 f4 f5 f6 f7 f8 f9 f10 f12 f13 f14 f15 f16 f17 f18 f19 f20 f21 f22 hj dd11 dd23 dd24 p0 p1 p2 p3 hdp hd
          refine Opn.mk ?_
          dsimp only
          go_simp
          obtain ⟨hS, ⟨f0, f1, f2, f3, f4, f5, f6, f7, f8, f9, f10, f12, f13, f14, f15, f16, f17, f18, f19, f20, f21, f22⟩, hj, ⟨dd11, dd23, dd24⟩, ⟨p0, p1, p2, p3⟩⟩ := HF.out
          exact hK.out (x29, x30, x31, x32, x33, x34, x35, x36, x37, .pointer (some ⟨b, o + i * 44 + 2, none⟩), .int .u64 (id : Int), x40, x41, x42, x43, x44, x45, x46, x47, x48, x49, x50, x51, x52, x53) _ ⟨hS, ⟨(fun h => f0 (upd_ne h (by decide))), (fun h => f1 (upd_ne h (by decide))), (fun h => f2 (upd_ne h (by decide))), (fun h => f3 (upd_ne h (by decide))), (fun h => f4 (upd_ne h (by decide))), (fun h => f5 (upd_ne h (by decide))), (fun h => f6 (upd_ne h (by decide))), (fun h => f7 (upd_ne h (by decide))), (fun h => f8 (upd_ne h (by decide))), (fun _ => rfl), (fun _ => rfl), (fun h => f12 (upd_ne h (by decide))), (fun h => f13 (upd_ne h (by decide))), (fun h => f14 (upd_ne h (by decide))), (fun h => f15 (upd_ne h (by decide))), (fun h => f16 (upd_ne h (by decide))), (fun h => f17 (upd_ne h (by decide))), (fun h => f18 (upd_ne h (by decide))), (fun h => f19 (upd_ne h (by decide))), (fun h => f20 (upd_ne h (by decide))), (fun h => f21 (upd_ne h (by decide))), (fun h => f22 (upd_ne h (by decide)))⟩, j, hj, ⟨((upd_no (by decide)).trans dd11), ((upd_no (by decide)).trans dd23), ((upd_no (by decide)).trans dd24)⟩, ⟨p0, p1, p2, p3⟩⟩
        · rintro d ⟨x29, x30, x31, x32, x33, x34, x35, x36, x37, x38, x39, x40, x41, x42, x43, x44, x45, x46, x47, x48, x49, x50, x51, x52, x53⟩ w' hI hd hdp KQ hK
          dsimp only at hI
          obtain ⟨hS, ⟨f0, f1, f2, f3, f4, f5, f6, f7, f8, f9, f10, f12, f13, f14, f15, f16, f17, f18, f19, f20, f21, f22⟩, j, hj, ⟨dd11, dd23, dd24⟩, ⟨p0, p1, p2, p3⟩⟩ := hI
          obtain rfl := f0 (hdp 0 (by decide +kernel))
          obtain rfl := f5 (hdp 5 (by decide +kernel))
          obtain rfl := f10 (hdp 10 (by decide +kernel))
          obtain rfl := ph_zero dd11 hd
          have s := p0 rfl
          clear p0 p1 p2 p3 hj
          have kk := s.fresh (f := f) (id := id) HBF.out.1 HBF.out.2 HM0.out HI150.out
          have HG : Hid _ := And.intro hS s
          clear hS s
          have HF : Hid _ := And.intro (And.intro f0 (And.intro f1 (And.intro f2 (And.intro f3 (And.intro f4 (And.intro f5 (And.intro f6 (And.intro f7 (And.intro f8 (And.intro f9 (And.intro f10 (And.intro f12 (And.intro f13 (And.intro f14 (And.intro f15 (And.intro f16 (And.intro f17 (And.intro f18 (And.intro f19 (And.intro f20 (And.intro f21 f22))))))))))))))))))))) (And.intro dd11 (And.intro dd23 dd24))
          clear f0 f1 f2 f3 f4 f5 f6 f7 f8 f9 f10 f12 f13 f14 f15 f16 f17 f18 f19 f20 f21 f22 dd11 dd23 dd24 hdp hd
          refine Opn.mk ?_
          dsimp only
          go_simp
          go_wp2_with (first | (go_at_call 25; with_reducible refine kk.mono ?_; rintro e5 w5 ⟨b5, he5, G5⟩; subst he5))
          obtain ⟨hS, s⟩ := HG.out
          obtain ⟨⟨f0, f1, f2, f3, f4, f5, f6, f7, f8, f9, f10, f12, f13, f14, f15, f16, f17, f18, f19, f20, f21, f22⟩, ⟨dd11, dd23, dd24⟩⟩ := HF.out
          refine hK.out (.pointer (some ⟨sq, 0, none⟩), x30, x31, x32, x33, .int .i64 f, x35, x36, x37, x38, .int .u64 (id : Int), .bool b5, x41, x42, x43, x44, x45, x46, x47, x48, x49, x50, x51, x52, x53) _ ⟨?sg, ⟨(fun _ => rfl), (fun h => f1 (upd_ne h (by decide))), (fun h => f2 (upd_ne h (by decide))), (fun h => f3 (upd_ne h (by decide))), (fun h => f4 (upd_ne h (by decide))), (fun _ => rfl), (fun h => f6 (upd_ne h (by decide))), (fun h => f7 (upd_ne h (by decide))), (fun h => f8 (upd_ne h (by decide))), (fun h => f9 (upd_ne h (by decide))), (fun _ => rfl), (fun h => f12 (upd_ne h (by decide))), (fun h => f13 (upd_ne h (by decide))), (fun h => f14 (upd_ne h (by decide))), (fun h => f15 (upd_ne h (by decide))), (fun h => f16 (upd_ne h (by decide))), (fun h => f17 (upd_ne h (by decide))), (fun h => f18 (upd_ne h (by decide))), (fun h => f19 (upd_ne h (by decide))), (fun h => f20 (upd_ne h (by decide))), (fun h => f21 (upd_ne h (by decide))), (fun h => f22 (upd_ne h (by decide)))⟩, 1, by decide, ⟨(by simp [upd]), ((upd_no (by decide)).trans (dd23.trans (by decide))), ((upd_no (by decide)).trans (dd24.trans (by decide)))⟩, ⟨(fun h => absurd h (by decide)), (fun _ => ?new), (fun h => absurd h (by decide)), (fun h => absurd h (by decide))⟩⟩
          case sg => exact G5.bl
          case new =>
            exact ⟨b5, rfl, G5⟩
        · rintro d ⟨x29, x30, x31, x32, x33, x34, x35, x36, x37, x38, x39, x40, x41, x42, x43, x44, x45, x46, x47, x48, x49, x50, x51, x52, x53⟩ w' hI hd hdp KQ hK
          dsimp only at hI
          obtain ⟨hS, ⟨f0, f1, f2, f3, f4, f5, f6, f7, f8, f9, f10, f12, f13, f14, f15, f16, f17, f18, f19, f20, f21, f22⟩, j, hj, ⟨dd11, dd23, dd24⟩, ⟨p0, p1, p2, p3⟩⟩ := hI
          have HF : Hid _ := And.intro hS (And.intro (And.intro f0 (And.intro f1 (And.intro f2 (And.intro f3 (And.intro f4 (And.intro f5 (And.intro f6 (And.intro f7 (And.intro f8 (And.intro f9 (And.intro f10 (And.intro f12 (And.intro f13 (And.intro f14 (And.intro f15 (And.intro f16 (And.intro f17 (And.intro f18 (And.intro f19 (And.intro f20 (And.intro f21 f22))))))))))))))))))))) (And.intro hj (And.intro (And.intro dd11 (And.intro dd23 dd24)) (And.intro p0 (And.intro p1 (And.intro p2 p3))))))
          clear hS f0 f1 f2 f3 f4 f5 f6 f7 f8 f9 f10 f12 f13 f14 f15 f16 f17 f18 f19 f20 f21 f22 hj dd11 dd23 dd24 p0 p1 p2 p3 hdp hd
          refine Opn.mk ?_
          dsimp only
          go_simp
          obtain ⟨hS, ⟨f0, f1, f2, f3, f4, f5, f6, f7, f8, f9, f10, f12, f13, f14, f15, f16, f17, f18, f19, f20, f21, f22⟩, hj, ⟨dd11, dd23, dd24⟩, ⟨p0, p1, p2, p3⟩⟩ := HF.out
          exact hK.out (x29, x30, x31, x32, x33, x34, x35, x36, x37, x38, x39, x40, .pointer (some ⟨r, 0, none⟩), x42, x43, x44, x45, x46, x47, x48, x49, x50, x51, x52, x53) _ ⟨hS, ⟨(fun h => f0 (upd_ne h (by decide))), (fun h => f1 (upd_ne h (by decide))), (fun h => f2 (upd_ne h (by decide))), (fun h => f3 (upd_ne h (by decide))), (fun h => f4 (upd_ne h (by decide))), (fun h => f5 (upd_ne h (by decide))), (fun h => f6 (upd_ne h (by decide))), (fun h => f7 (upd_ne h (by decide))), (fun h => f8 (upd_ne h (by decide))), (fun h => f9 (upd_ne h (by decide))), (fun h => f10 (upd_ne h (by decide))), (fun _ => rfl), (fun h => f13 (upd_ne h (by decide))), (fun h => f14 (upd_ne h (by decide))), (fun h => f15 (upd_ne h (by decide))), (fun h => f16 (upd_ne h (by decide))), (fun h => f17 (upd_ne h (by decide))), (fun h => f18 (upd_ne h (by decide))), (fun h => f19 (upd_ne h (by decide))), (fun h => f20 (upd_ne h (by decide))), (fun h => f21 (upd_ne h (by decide))), (fun h => f22 (upd_ne h (by decide)))⟩, j, hj, ⟨((upd_no (by decide)).trans dd11), ((upd_no (by decide)).trans dd23), ((upd_no (by decide)).trans dd24)⟩, ⟨p0, p1, p2, p3⟩⟩
        · rintro d ⟨x29, x30, x31, x32, x33, x34, x35, x36, x37, x38, x39, x40, x41, x42, x43, x44, x45, x46, x47, x48, x49, x50, x51, x52, x53⟩ w' hI hd hdp KQ hK
          dsimp only at hI
          obtain ⟨hS, ⟨f0, f1, f2, f3, f4, f5, f6, f7, f8, f9, f10, f12, f13, f14, f15, f16, f17, f18, f19, f20, f21, f22⟩, j, hj, ⟨dd11, dd23, dd24⟩, ⟨p0, p1, p2, p3⟩⟩ := hI
          have HF : Hid _ := And.intro hS (And.intro (And.intro f0 (And.intro f1 (And.intro f2 (And.intro f3 (And.intro f4 (And.intro f5 (And.intro f6 (And.intro f7 (And.intro f8 (And.intro f9 (And.intro f10 (And.intro f12 (And.intro f13 (And.intro f14 (And.intro f15 (And.intro f16 (And.intro f17 (And.intro f18 (And.intro f19 (And.intro f20 (And.intro f21 f22))))))))))))))))))))) (And.intro hj (And.intro (And.intro dd11 (And.intro dd23 dd24)) (And.intro p0 (And.intro p1 (And.intro p2 p3))))))
          clear hS f0 f1 f2 f3 f4 f5 f6 f7 f8 f9 f10 f12 f13 f14 f15 f16 f17 f18 f19 f20 f21 f22 hj dd11 dd23 dd24 p0 p1 p2 p3 hdp hd
          refine Opn.mk ?_
          dsimp only
          go_simp
          obtain ⟨hS, ⟨f0, f1, f2, f3, f4, f5, f6, f7, f8, f9, f10, f12, f13, f14, f15, f16, f17, f18, f19, f20, f21, f22⟩, hj, ⟨dd11, dd23, dd24⟩, ⟨p0, p1, p2, p3⟩⟩ := HF.out
          exact hK.out (x29, x30, x31, x32, x33, x34, x35, x36, x37, x38, x39, x40, x41, .slice (some ⟨b, o, none⟩) n cap, x43, x44, x45, x46, x47, x48, x49, x50, x51, x52, x53) _ ⟨hS, ⟨(fun h => f0 (upd_ne h (by decide))), (fun h => f1 (upd_ne h (by decide))), (fun h => f2 (upd_ne h (by decide))), (fun h => f3 (upd_ne h (by decide))), (fun h => f4 (upd_ne h (by decide))), (fun h => f5 (upd_ne h (by decide))), (fun h => f6 (upd_ne h (by decide))), (fun h => f7 (upd_ne h (by decide))), (fun h => f8 (upd_ne h (by decide))), (fun h => f9 (upd_ne h (by decide))), (fun h => f10 (upd_ne h (by decide))), (fun h => f12 (upd_ne h (by decide))), (fun _ => rfl), (fun h => f14 (upd_ne h (by decide))), (fun h => f15 (upd_ne h (by decide))), (fun h => f16 (upd_ne h (by decide))), (fun h => f17 (upd_ne h (by decide))), (fun h => f18 (upd_ne h (by decide))), (fun h => f19 (upd_ne h (by decide))), (fun h => f20 (upd_ne h (by decide))), (fun h => f21 (upd_ne h (by decide))), (fun h => f22 (upd_ne h (by decide)))⟩, j, hj, ⟨((upd_no (by decide)).trans dd11), ((upd_no (by decide)).trans dd23), ((upd_no (by decide)).trans dd24)⟩, ⟨p0, p1, p2, p3⟩⟩
        · rintro d ⟨x29, x30, x31, x32, x33, x34, x35, x36, x37, x38, x39, x40, x41, x42, x43, x44, x45, x46, x47, x48, x49, x50, x51, x52, x53⟩ w' hI hd hdp KQ hK
          dsimp only at hI
          obtain ⟨hS, ⟨f0, f1, f2, f3, f4, f5, f6, f7, f8, f9, f10, f12, f13, f14, f15, f16, f17, f18, f19, f20, f21, f22⟩, j, hj, ⟨dd11, dd23, dd24⟩, ⟨p0, p1, p2, p3⟩⟩ := hI
          have HF : Hid _ := And.intro hS (And.intro (And.intro f0 (And.intro f1 (And.intro f2 (And.intro f3 (And.intro f4 (And.intro f5 (And.intro f6 (And.intro f7 (And.intro f8 (And.intro f9 (And.intro f10 (And.intro f12 (And.intro f13 (And.intro f14 (And.intro f15 (And.intro f16 (And.intro f17 (And.intro f18 (And.intro f19 (And.intro f20 (And.intro f21 f22))))))))))))))))))))) (And.intro hj (And.intro (And.intro dd11 (And.intro dd23 dd24)) (And.intro p0 (And.intro p1 (And.intro p2 p3))))))
          clear hS f0 f1 f2 f3 f4 f5 f6 f7 f8 f9 f10 f12 f13 f14 f15 f16 f17 f18 f19 f20 f21 f22 hj dd11 dd23 dd24 p0 p1 p2 p3 hdp hd
          refine Opn.mk ?_
          dsimp only
          go_simp
          obtain ⟨hS, ⟨f0, f1, f2, f3, f4, f5, f6, f7, f8, f9, f10, f12, f13, f14, f15, f16, f17, f18, f19, f20, f21, f22⟩, hj, ⟨dd11, dd23, dd24⟩, ⟨p0, p1, p2, p3⟩⟩ := HF.out
          exact hK.out (x29, x30, x31, x32, x33, x34, x35, x36, x37, x38, x39, x40, x41, x42, .int .i64 (i : Int), x44, x45, x46, x47, x48, x49, x50, x51, x52, x53) _ ⟨hS, ⟨(fun h => f0 (upd_ne h (by decide))), (fun h => f1 (upd_ne h (by decide))), (fun h => f2 (upd_ne h (by decide))), (fun h => f3 (upd_ne h (by decide))), (fun h => f4 (upd_ne h (by decide))), (fun h => f5 (upd_ne h (by decide))), (fun h => f6 (upd_ne h (by decide))), (fun h => f7 (upd_ne h (by decide))), (fun h => f8 (upd_ne h (by decide))), (fun h => f9 (upd_ne h (by decide))), (fun h => f10 (upd_ne h (by decide))), (fun h => f12 (upd_ne h (by decide))), (fun h => f13 (upd_ne h (by decide))), (fun _ => rfl), (fun h => f15 (upd_ne h (by decide))), (fun h => f16 (upd_ne h (by decide))), (fun h => f17 (upd_ne h (by decide))), (fun h => f18 (upd_ne h (by decide))), (fun h => f19 (upd_ne h (by decide))), (fun h => f20 (upd_ne h (by decide))), (fun h => f21 (upd_ne h (by decide))), (fun h => f22 (upd_ne h (by decide)))⟩, j, hj, ⟨((upd_no (by decide)).trans dd11), ((upd_no (by decide)).trans dd23), ((upd_no (by decide)).trans dd24)⟩, ⟨p0, p1, p2, p3⟩⟩
        · rintro d ⟨x29, x30, x31, x32, x33, x34, x35, x36, x37, x38, x39, x40, x41, x42, x43, x44, x45, x46, x47, x48, x49, x50, x51, x52, x53⟩ w' hI hd hdp KQ hK
          dsimp only at hI
          obtain ⟨hS, ⟨f0, f1, f2, f3, f4, f5, f6, f7, f8, f9, f10, f12, f13, f14, f15, f16, f17, f18, f19, f20, f21, f22⟩, j, hj, ⟨dd11, dd23, dd24⟩, ⟨p0, p1, p2, p3⟩⟩ := hI
          obtain rfl := f13 (hdp 13 (by decide +kernel))
          obtain rfl := f14 (hdp 14 (by decide +kernel))
          have HF : Hid _ := And.intro hS (And.intro (And.intro f0 (And.intro f1 (And.intro f2 (And.intro f3 (And.intro f4 (And.intro f5 (And.intro f6 (And.intro f7 (And.intro f8 (And.intro f9 (And.intro f10 (And.intro f12 (And.intro f13 (And.intro f14 (And.intro f15 (And.intro f16 (And.intro f17 (And.intro f18 (And.intro f19 (And.intro f20 (And.intro f21 f22))))))))))))))))))))) (And.intro hj (And.intro (And.intro dd11 (And.intro dd23 dd24)) (And.intro p0 (And.intro p1 (And.intro p2 p3))))))
          clear hS f0 f1 f2 f3 f4 f5 f6 f7 f8 f9 f10 f12 f13 f14 f15 f16 f17 f18 f19 f20 f21 f22 hj dd11 dd23 dd24 p0 p1 p2 p3 hdp hd
          refine Opn.mk ?_
          dsimp only
          go_simp
          obtain ⟨hS, ⟨f0, f1, f2, f3, f4, f5, f6, f7, f8, f9, f10, f12, f13, f14, f15, f16, f17, f18, f19, f20, f21, f22⟩, hj, ⟨dd11, dd23, dd24⟩, ⟨p0, p1, p2, p3⟩⟩ := HF.out
          exact hK.out (x29, x30, x31, x32, x33, x34, x35, x36, x37, x38, x39, x40, x41, .slice (some ⟨b, o, none⟩) n cap, .int .i64 (i : Int), .pointer (some ⟨b, o + i * 44, none⟩), x45, x46, x47, x48, x49, x50, x51, x52, x53) _ ⟨hS, ⟨(fun h => f0 (upd_ne h (by decide))), (fun h => f1 (upd_ne h (by decide))), (fun h => f2 (upd_ne h (by decide))), (fun h => f3 (upd_ne h (by decide))), (fun h => f4 (upd_ne h (by decide))), (fun h => f5 (upd_ne h (by decide))), (fun h => f6 (upd_ne h (by decide))), (fun h => f7 (upd_ne h (by decide))), (fun h => f8 (upd_ne h (by decide))), (fun h => f9 (upd_ne h (by decide))), (fun h => f10 (upd_ne h (by decide))), (fun h => f12 (upd_ne h (by decide))), (fun _ => rfl), (fun _ => rfl), (fun _ => rfl), (fun h => f16 (upd_ne h (by decide))), (fun h => f17 (upd_ne h (by decide))), (fun h => f18 (upd_ne h (by decide))), (fun h => f19 (upd_ne h (by decide))), (fun h => f20 (upd_ne h (by decide))), (fun h => f21 (upd_ne h (by decide))), (fun h => f22 (upd_ne h (by decide)))⟩, j, hj, ⟨((upd_no (by decide)).trans dd11), ((upd_no (by decide)).trans dd23), ((upd_no (by decide)).trans dd24)⟩, ⟨p0, p1, p2, p3⟩⟩
        · rintro d ⟨x29, x30, x31, x32, x33, x34, x35, x36, x37, x38, x39, x40, x41, x42, x43, x44, x45, x46, x47, x48, x49, x50, x51, x52, x53⟩ w' hI hd hdp KQ hK
          dsimp only at hI
          obtain ⟨hS, ⟨f0, f1, f2, f3, f4, f5, f6, f7, f8, f9, f10, f12, f13, f14, f15, f16, f17, f18, f19, f20, f21, f22⟩, j, hj, ⟨dd11, dd23, dd24⟩, ⟨p0, p1, p2, p3⟩⟩ := hI
          obtain rfl := f15 (hdp 15 (by decide +kernel))
          have HF : Hid _ := And.intro hS (And.intro (And.intro f0 (And.intro f1 (And.intro f2 (And.intro f3 (And.intro f4 (And.intro f5 (And.intro f6 (And.intro f7 (And.intro f8 (And.intro f9 (And.intro f10 (And.intro f12 (And.intro f13 (And.intro f14 (And.intro f15 (And.intro f16 (And.intro f17 (And.intro f18 (And.intro f19 (And.intro f20 (And.intro f21 f22))))))))))))))))))))) (And.intro hj (And.intro (And.intro dd11 (And.intro dd23 dd24)) (And.intro p0 (And.intro p1 (And.intro p2 p3))))))
          clear hS f0 f1 f2 f3 f4 f5 f6 f7 f8 f9 f10 f12 f13 f14 f15 f16 f17 f18 f19 f20 f21 f22 hj dd11 dd23 dd24 p0 p1 p2 p3 hdp hd
          refine Opn.mk ?_
          dsimp only
          go_simp
          obtain ⟨hS, ⟨f0, f1, f2, f3, f4, f5, f6, f7, f8, f9, f10, f12, f13, f14, f15, f16, f17, f18, f19, f20, f21, f22⟩, hj, ⟨dd11, dd23, dd24⟩, ⟨p0, p1, p2, p3⟩⟩ := HF.out
          exact hK.out (x29, x30, x31, x32, x33, x34, x35, x36, x37, x38, x39, x40, x41, x42, x43, .pointer (some ⟨b, o + i * 44, none⟩), .pointer (some ⟨b, o + i * 44 + 1, none⟩), x46, x47, x48, x49, x50, x51, x52, x53) _ ⟨hS, ⟨(fun h => f0 (upd_ne h (by decide))), (fun h => f1 (upd_ne h (by decide))), (fun h => f2 (upd_ne h (by decide))), (fun h => f3 (upd_ne h (by decide))), (fun h => f4 (upd_ne h (by decide))), (fun h => f5 (upd_ne h (by decide))), (fun h => f6 (upd_ne h (by decide))), (fun h => f7 (upd_ne h (by decide))), (fun h => f8 (upd_ne h (by decide))), (fun h => f9 (upd_ne h (by decide))), (fun h => f10 (upd_ne h (by decide))), (fun h => f12 (upd_ne h (by decide))), (fun h => f13 (upd_ne h (by decide))), (fun h => f14 (upd_ne h (by decide))), (fun _ => rfl), (fun _ => rfl), (fun h => f17 (upd_ne h (by decide))), (fun h => f18 (upd_ne h (by decide))), (fun h => f19 (upd_ne h (by decide))), (fun h => f20 (upd_ne h (by decide))), (fun h => f21 (upd_ne h (by decide))), (fun h => f22 (upd_ne h (by decide)))⟩, j, hj, ⟨((upd_no (by decide)).trans dd11), ((upd_no (by decide)).trans dd23), ((upd_no (by decide)).trans dd24)⟩, ⟨p0, p1, p2, p3⟩⟩
        · rintro d ⟨x29, x30, x31, x32, x33, x34, x35, x36, x37, x38, x39, x40, x41, x42, x43, x44, x45, x46, x47, x48, x49, x50, x51, x52, x53⟩ w' hI hd hdp KQ hK
          dsimp only at hI
          obtain ⟨hS, ⟨f0, f1, f2, f3, f4, f5, f6, f7, f8, f9, f10, f12, f13, f14, f15, f16, f17, f18, f19, f20, f21, f22⟩, j, hj, ⟨dd11, dd23, dd24⟩, ⟨p0, p1, p2, p3⟩⟩ := hI
          obtain rfl := f16 (hdp 16 (by decide +kernel))
          have cc : w'.cell? ⟨b, o + i * 44 + 1, none⟩ = some (.int .i64 f) := by rw [hS.cell (World.block_lt_of_cell? _ _ HC1.out)]; exact HC1.out
          have HF : Hid _ := And.intro hS (And.intro (And.intro f0 (And.intro f1 (And.intro f2 (And.intro f3 (And.intro f4 (And.intro f5 (And.intro f6 (And.intro f7 (And.intro f8 (And.intro f9 (And.intro f10 (And.intro f12 (And.intro f13 (And.intro f14 (And.intro f15 (And.intro f16 (And.intro f17 (And.intro f18 (And.intro f19 (And.intro f20 (And.intro f21 f22))))))))))))))))))))) (And.intro hj (And.intro (And.intro dd11 (And.intro dd23 dd24)) (And.intro p0 (And.intro p1 (And.intro p2 p3))))))
          clear hS f0 f1 f2 f3 f4 f5 f6 f7 f8 f9 f10 f12 f13 f14 f15 f16 f17 f18 f19 f20 f21 f22 hj dd11 dd23 dd24 p0 p1 p2 p3 hdp hd
          refine Opn.mk ?_
          dsimp only
          go_simp
          obtain ⟨hS, ⟨f0, f1, f2, f3, f4, f5, f6, f7, f8, f9, f10, f12, f13, f14, f15, f16, f17, f18, f19, f20, f21, f22⟩, hj, ⟨dd11, dd23, dd24⟩, ⟨p0, p1, p2, p3⟩⟩ := HF.out
          exact hK.out (x29, x30, x31, x32, x33, x34, x35, x36, x37, x38, x39, x40, x41, x42, x43, x44, .pointer (some ⟨b, o + i * 44 + 1, none⟩), .int .i64 f, x47, x48, x49, x50, x51, x52, x53) _ ⟨hS, ⟨(fun h => f0 (upd_ne h (by decide))), (fun h => f1 (upd_ne h (by decide))), (fun h => f2 (upd_ne h (by decide))), (fun h => f3 (upd_ne h (by decide))), (fun h => f4 (upd_ne h (by decide))), (fun h => f5 (upd_ne h (by decide))), (fun h => f6 (upd_ne h (by decide))), (fun h => f7 (upd_ne h (by decide))), (fun h => f8 (upd_ne h (by decide))), (fun h => f9 (upd_ne h (by decide))), (fun h => f10 (upd_ne h (by decide))), (fun h => f12 (upd_ne h (by decide))), (fun h => f13 (upd_ne h (by decide))), (fun h => f14 (upd_ne h (by decide))), (fun h => f15 (upd_ne h (by decide))), (fun _ => rfl), (fun _ => rfl), (fun h => f18 (upd_ne h (by decide))), (fun h => f19 (upd_ne h (by decide))), (fun h => f20 (upd_ne h (by decide))), (fun h => f21 (upd_ne h (by decide))), (fun h => f22 (upd_ne h (by decide)))⟩, j, hj, ⟨((upd_no (by decide)).trans dd11), ((upd_no (by decide)).trans dd23), ((upd_no (by decide)).trans dd24)⟩, ⟨p0, p1, p2, p3⟩⟩
        · rintro d ⟨x29, x30, x31, x32, x33, x34, x35, x36, x37, x38, x39, x40, x41, x42, x43, x44, x45, x46, x47, x48, x49, x50, x51, x52, x53⟩ w' hI hd hdp KQ hK
          dsimp only at hI
          obtain ⟨hS, ⟨f0, f1, f2, f3, f4, f5, f6, f7, f8, f9, f10, f12, f13, f14, f15, f16, f17, f18, f19, f20, f21, f22⟩, j, hj, ⟨dd11, dd23, dd24⟩, ⟨p0, p1, p2, p3⟩⟩ := hI
          have HF : Hid _ := And.intro hS (And.intro (And.intro f0 (And.intro f1 (And.intro f2 (And.intro f3 (And.intro f4 (And.intro f5 (And.intro f6 (And.intro f7 (And.intro f8 (And.intro f9 (And.intro f10 (And.intro f12 (And.intro f13 (And.intro f14 (And.intro f15 (And.intro f16 (And.intro f17 (And.intro f18 (And.intro f19 (And.intro f20 (And.intro f21 f22))))))))))))))))))))) (And.intro hj (And.intro (And.intro dd11 (And.intro dd23 dd24)) (And.intro p0 (And.intro p1 (And.intro p2 p3))))))
          clear hS f0 f1 f2 f3 f4 f5 f6 f7 f8 f9 f10 f12 f13 f14 f15 f16 f17 f18 f19 f20 f21 f22 hj dd11 dd23 dd24 p0 p1 p2 p3 hdp hd
          refine Opn.mk ?_
          dsimp only
          go_simp
          obtain ⟨hS, ⟨f0, f1, f2, f3, f4, f5, f6, f7, f8, f9, f10, f12, f13, f14, f15, f16, f17, f18, f19, f20, f21, f22⟩, hj, ⟨dd11, dd23, dd24⟩, ⟨p0, p1, p2, p3⟩⟩ := HF.out
          exact hK.out (x29, x30, x31, x32, x33, x34, x35, x36, x37, x38, x39, x40, x41, x42, x43, x44, x45, x46, .slice (some ⟨b, o, none⟩) n cap, x48, x49, x50, x51, x52, x53) _ ⟨hS, ⟨(fun h => f0 (upd_ne h (by decide))), (fun h => f1 (upd_ne h (by decide))), (fun h => f2 (upd_ne h (by decide))), (fun h => f3 (upd_ne h (by decide))), (fun h => f4 (upd_ne h (by decide))), (fun h => f5 (upd_ne h (by decide))), (fun h => f6 (upd_ne h (by decide))), (fun h => f7 (upd_ne h (by decide))), (fun h => f8 (upd_ne h (by decide))), (fun h => f9 (upd_ne h (by decide))), (fun h => f10 (upd_ne h (by decide))), (fun h => f12 (upd_ne h (by decide))), (fun h => f13 (upd_ne h (by decide))), (fun h => f14 (upd_ne h (by decide))), (fun h => f15 (upd_ne h (by decide))), (fun h => f16 (upd_ne h (by decide))), (fun h => f17 (upd_ne h (by decide))), (fun _ => rfl), (fun h => f19 (upd_ne h (by decide))), (fun h => f20 (upd_ne h (by decide))), (fun h => f21 (upd_ne h (by decide))), (fun h => f22 (upd_ne h (by decide)))⟩, j, hj, ⟨((upd_no (by decide)).trans dd11), ((upd_no (by decide)).trans dd23), ((upd_no (by decide)).trans dd24)⟩, ⟨p0, p1, p2, p3⟩⟩
        · rintro d ⟨x29, x30, x31, x32, x33, x34, x35, x36, x37, x38, x39, x40, x41, x42, x43, x44, x45, x46, x47, x48, x49, x50, x51, x52, x53⟩ w' hI hd hdp KQ hK
          dsimp only at hI
          obtain ⟨hS, ⟨f0, f1, f2, f3, f4, f5, f6, f7, f8, f9, f10, f12, f13, f14, f15, f16, f17, f18, f19, f20, f21, f22⟩, j, hj, ⟨dd11, dd23, dd24⟩, ⟨p0, p1, p2, p3⟩⟩ := hI
          have HF : Hid _ := And.intro hS (And.intro (And.intro f0 (And.intro f1 (And.intro f2 (And.intro f3 (And.intro f4 (And.intro f5 (And.intro f6 (And.intro f7 (And.intro f8 (And.intro f9 (And.intro f10 (And.intro f12 (And.intro f13 (And.intro f14 (And.intro f15 (And.intro f16 (And.intro f17 (And.intro f18 (And.intro f19 (And.intro f20 (And.intro f21 f22))))))))))))))))))))) (And.intro hj (And.intro (And.intro dd11 (And.intro dd23 dd24)) (And.intro p0 (And.intro p1 (And.intro p2 p3))))))
          clear hS f0 f1 f2 f3 f4 f5 f6 f7 f8 f9 f10 f12 f13 f14 f15 f16 f17 f18 f19 f20 f21 f22 hj dd11 dd23 dd24 p0 p1 p2 p3 hdp hd
          refine Opn.mk ?_
          dsimp only
          go_simp
          obtain ⟨hS, ⟨f0, f1, f2, f3, f4, f5, f6, f7, f8, f9, f10, f12, f13, f14, f15, f16, f17, f18, f19, f20, f21, f22⟩, hj, ⟨dd11, dd23, dd24⟩, ⟨p0, p1, p2, p3⟩⟩ := HF.out
          exact hK.out (x29, x30, x31, x32, x33, x34, x35, x36, x37, x38, x39, x40, x41, x42, x43, x44, x45, x46, x47, .int .i64 (i : Int), x49, x50, x51, x52, x53) _ ⟨hS, ⟨(fun h => f0 (upd_ne h (by decide))), (fun h => f1 (upd_ne h (by decide))), (fun h => f2 (upd_ne h (by decide))), (fun h => f3 (upd_ne h (by decide))), (fun h => f4 (upd_ne h (by decide))), (fun h => f5 (upd_ne h (by decide))), (fun h => f6 (upd_ne h (by decide))), (fun h => f7 (upd_ne h (by decide))), (fun h => f8 (upd_ne h (by decide))), (fun h => f9 (upd_ne h (by decide))), (fun h => f10 (upd_ne h (by decide))), (fun h => f12 (upd_ne h (by decide))), (fun h => f13 (upd_ne h (by decide))), (fun h => f14 (upd_ne h (by decide))), (fun h => f15 (upd_ne h (by decide))), (fun h => f16 (upd_ne h (by decide))), (fun h => f17 (upd_ne h (by decide))), (fun h => f18 (upd_ne h (by decide))), (fun _ => rfl), (fun h => f20 (upd_ne h (by decide))), (fun h => f21 (upd_ne h (by decide))), (fun h => f22 (upd_ne h (by decide)))⟩, j, hj, ⟨((upd_no (by decide)).trans dd11), ((upd_no (by decide)).trans dd23), ((upd_no (by decide)).trans dd24)⟩, ⟨p0, p1, p2, p3⟩⟩
        · rintro d ⟨x29, x30, x31, x32, x33, x34, x35, x36, x37, x38, x39, x40, x41, x42, x43, x44, x45, x46, x47, x48, x49, x50, x51, x52, x53⟩ w' hI hd hdp KQ hK
          dsimp only at hI
          obtain ⟨hS, ⟨f0, f1, f2, f3, f4, f5, f6, f7, f8, f9, f10, f12, f13, f14, f15, f16, f17, f18, f19, f20, f21, f22⟩, j, hj, ⟨dd11, dd23, dd24⟩, ⟨p0, p1, p2, p3⟩⟩ := hI
          obtain rfl := f18 (hdp 18 (by decide +kernel))
          obtain rfl := f19 (hdp 19 (by decide +kernel))
          have HF : Hid _ := And.intro hS (And.intro (And.intro f0 (And.intro f1 (And.intro f2 (And.intro f3 (And.intro f4 (And.intro f5 (And.intro f6 (And.intro f7 (And.intro f8 (And.intro f9 (And.intro f10 (And.intro f12 (And.intro f13 (And.intro f14 (And.intro f15 (And.intro f16 (And.intro f17 (And.intro f18 (And.intro f19 (And.intro f20 (And.intro f21 f22))))))))))))))))))))) (And.intro hj (And.intro (And.intro dd11 (And.intro dd23 dd24)) (And.intro p0 (And.intro p1 (And.intro p2 p3))))))
          clear hS f0 f1 f2 f3 f4 f5 f6 f7 f8 f9 f10 f12 f13 f14 f15 f16 f17 f18 f19 f20 f21 f22 hj dd11 dd23 dd24 p0 p1 p2 p3 hdp hd
          refine Opn.mk ?_
          dsimp only
          go_simp
          obtain ⟨hS, ⟨f0, f1, f2, f3, f4, f5, f6, f7, f8, f9, f10, f12, f13, f14, f15, f16, f17, f18, f19, f20, f21, f22⟩, hj, ⟨dd11, dd23, dd24⟩, ⟨p0, p1, p2, p3⟩⟩ := HF.out
          exact hK.out (x29, x30, x31, x32, x33, x34, x35, x36, x37, x38, x39, x40, x41, x42, x43, x44, x45, x46, .slice (some ⟨b, o, none⟩) n cap, .int .i64 (i : Int), .pointer (some ⟨b, o + i * 44, none⟩), x50, x51, x52, x53) _ ⟨hS, ⟨(fun h => f0 (upd_ne h (by decide))), (fun h => f1 (upd_ne h (by decide))), (fun h => f2 (upd_ne h (by decide))), (fun h => f3 (upd_ne h (by decide))), (fun h => f4 (upd_ne h (by decide))), (fun h => f5 (upd_ne h (by decide))), (fun h => f6 (upd_ne h (by decide))), (fun h => f7 (upd_ne h (by decide))), (fun h => f8 (upd_ne h (by decide))), (fun h => f9 (upd_ne h (by decide))), (fun h => f10 (upd_ne h (by decide))), (fun h => f12 (upd_ne h (by decide))), (fun h => f13 (upd_ne h (by decide))), (fun h => f14 (upd_ne h (by decide))), (fun h => f15 (upd_ne h (by decide))), (fun h => f16 (upd_ne h (by decide))), (fun h => f17 (upd_ne h (by decide))), (fun _ => rfl), (fun _ => rfl), (fun _ => rfl), (fun h => f21 (upd_ne h (by decide))), (fun h => f22 (upd_ne h (by decide)))⟩, j, hj, ⟨((upd_no (by decide)).trans dd11), ((upd_no (by decide)).trans dd23), ((upd_no (by decide)).trans dd24)⟩, ⟨p0, p1, p2, p3⟩⟩
        · rintro d ⟨x29, x30, x31, x32, x33, x34, x35, x36, x37, x38, x39, x40, x41, x42, x43, x44, x45, x46, x47, x48, x49, x50, x51, x52, x53⟩ w' hI hd hdp KQ hK
          dsimp only at hI
          obtain ⟨hS, ⟨f0, f1, f2, f3, f4, f5, f6, f7, f8, f9, f10, f12, f13, f14, f15, f16, f17, f18, f19, f20, f21, f22⟩, j, hj, ⟨dd11, dd23, dd24⟩, ⟨p0, p1, p2, p3⟩⟩ := hI
          obtain rfl := f20 (hdp 20 (by decide +kernel))
          have HF : Hid _ := And.intro hS (And.intro (And.intro f0 (And.intro f1 (And.intro f2 (And.intro f3 (And.intro f4 (And.intro f5 (And.intro f6 (And.intro f7 (And.intro f8 (And.intro f9 (And.intro f10 (And.intro f12 (And.intro f13 (And.intro f14 (And.intro f15 (And.intro f16 (And.intro f17 (And.intro f18 (And.intro f19 (And.intro f20 (And.intro f21 f22))))))))))))))))))))) (And.intro hj (And.intro (And.intro dd11 (And.intro dd23 dd24)) (And.intro p0 (And.intro p1 (And.intro p2 p3))))))
          clear hS f0 f1 f2 f3 f4 f5 f6 f7 f8 f9 f10 f12 f13 f14 f15 f16 f17 f18 f19 f20 f21 f22 hj dd11 dd23 dd24 p0 p1 p2 p3 hdp hd
          refine Opn.mk ?_
          dsimp only
          go_simp
          obtain ⟨hS, ⟨f0, f1, f2, f3, f4, f5, f6, f7, f8, f9, f10, f12, f13, f14, f15, f16, f17, f18, f19, f20, f21, f22⟩, hj, ⟨dd11, dd23, dd24⟩, ⟨p0, p1, p2, p3⟩⟩ := HF.out
          exact hK.out (x29, x30, x31, x32, x33, x34, x35, x36, x37, x38, x39, x40, x41, x42, x43, x44, x45, x46, x47, x48, .pointer (some ⟨b, o + i * 44, none⟩), .pointer (some ⟨b, o + i * 44 + 2, none⟩), x51, x52, x53) _ ⟨hS, ⟨(fun h => f0 (upd_ne h (by decide))), (fun h => f1 (upd_ne h (by decide))), (fun h => f2 (upd_ne h (by decide))), (fun h => f3 (upd_ne h (by decide))), (fun h => f4 (upd_ne h (by decide))), (fun h => f5 (upd_ne h (by decide))), (fun h => f6 (upd_ne h (by decide))), (fun h => f7 (upd_ne h (by decide))), (fun h => f8 (upd_ne h (by decide))), (fun h => f9 (upd_ne h (by decide))), (fun h => f10 (upd_ne h (by decide))), (fun h => f12 (upd_ne h (by decide))), (fun h => f13 (upd_ne h (by decide))), (fun h => f14 (upd_ne h (by decide))), (fun h => f15 (upd_ne h (by decide))), (fun h => f16 (upd_ne h (by decide))), (fun h => f17 (upd_ne h (by decide))), (fun h => f18 (upd_ne h (by decide))), (fun h => f19 (upd_ne h (by decide))), (fun _ => rfl), (fun _ => rfl), (fun h => f22 (upd_ne h (by decide)))⟩, j, hj, ⟨((upd_no (by decide)).trans dd11), ((upd_no (by decide)).trans dd23), ((upd_no (by decide)).trans dd24)⟩, ⟨p0, p1, p2, p3⟩⟩
        · rintro d ⟨x29, x30, x31, x32, x33, x34, x35, x36, x37, x38, x39, x40, x41, x42, x43, x44, x45, x46, x47, x48, x49, x50, x51, x52, x53⟩ w' hI hd hdp KQ hK
          dsimp only at hI
          obtain ⟨hS, ⟨f0, f1, f2, f3, f4, f5, f6, f7, f8, f9, f10, f12, f13, f14, f15, f16, f17, f18, f19, f20, f21, f22⟩, j, hj, ⟨dd11, dd23, dd24⟩, ⟨p0, p1, p2, p3⟩⟩ := hI
          obtain rfl := f21 (hdp 21 (by decide +kernel))
          have cc : w'.cell? ⟨b, o + i * 44 + 2, none⟩ = some (.int .u64 (id : Int)) := by rw [hS.cell (World.block_lt_of_cell? _ _ HC2.out)]; exact HC2.out
          have HF : Hid _ := And.intro hS (And.intro (And.intro f0 (And.intro f1 (And.intro f2 (And.intro f3 (And.intro f4 (And.intro f5 (And.intro f6 (And.intro f7 (And.intro f8 (And.intro f9 (And.intro f10 (And.intro f12 (And.intro f13 (And.intro f14 (And.intro f15 (And.intro f16 (And.intro f17 (And.intro f18 (And.intro f19 (And.intro f20 (And.intro f21 f22))))))))))))))))))))) (And.intro hj (And.intro (And.intro dd11 (And.intro dd23 dd24)) (And.intro p0 (And.intro p1 (And.intro p2 p3))))))
          clear hS f0 f1 f2 f3 f4 f5 f6 f7 f8 f9 f10 f12 f13 f14 f15 f16 f17 f18 f19 f20 f21 f22 hj dd11 dd23 dd24 p0 p1 p2 p3 hdp hd
          refine Opn.mk ?_
          dsimp only
          go_simp
          obtain ⟨hS, ⟨f0, f1, f2, f3, f4, f5, f6, f7, f8, f9, f10, f12, f13, f14, f15, f16, f17, f18, f19, f20, f21, f22⟩, hj, ⟨dd11, dd23, dd24⟩, ⟨p0, p1, p2, p3⟩⟩ := HF.out
          exact hK.out (x29, x30, x31, x32, x33, x34, x35, x36, x37, x38, x39, x40, x41, x42, x43, x44, x45, x46, x47, x48, x49, .pointer (some ⟨b, o + i * 44 + 2, none⟩), .int .u64 (id : Int), x52, x53) _ ⟨hS, ⟨(fun h => f0 (upd_ne h (by decide))), (fun h => f1 (upd_ne h (by decide))), (fun h => f2 (upd_ne h (by decide))), (fun h => f3 (upd_ne h (by decide))), (fun h => f4 (upd_ne h (by decide))), (fun h => f5 (upd_ne h (by decide))), (fun h => f6 (upd_ne h (by decide))), (fun h => f7 (upd_ne h (by decide))), (fun h => f8 (upd_ne h (by decide))), (fun h => f9 (upd_ne h (by decide))), (fun h => f10 (upd_ne h (by decide))), (fun h => f12 (upd_ne h (by decide))), (fun h => f13 (upd_ne h (by decide))), (fun h => f14 (upd_ne h (by decide))), (fun h => f15 (upd_ne h (by decide))), (fun h => f16 (upd_ne h (by decide))), (fun h => f17 (upd_ne h (by decide))), (fun h => f18 (upd_ne h (by decide))), (fun h => f19 (upd_ne h (by decide))), (fun h => f20 (upd_ne h (by decide))), (fun _ => rfl), (fun _ => rfl)⟩, j, hj, ⟨((upd_no (by decide)).trans dd11), ((upd_no (by decide)).trans dd23), ((upd_no (by decide)).trans dd24)⟩, ⟨p0, p1, p2, p3⟩⟩
        · rintro d ⟨x29, x30, x31, x32, x33, x34, x35, x36, x37, x38, x39, x40, x41, x42, x43, x44, x45, x46, x47, x48, x49, x50, x51, x52, x53⟩ w' hI hd hdp KQ hK
          dsimp only at hI
          obtain ⟨hS, ⟨f0, f1, f2, f3, f4, f5, f6, f7, f8, f9, f10, f12, f13, f14, f15, f16, f17, f18, f19, f20, f21, f22⟩, j, hj, ⟨dd11, dd23, dd24⟩, ⟨p0, p1, p2, p3⟩⟩ := hI
          obtain rfl := f12 (hdp 12 (by decide +kernel))
          obtain rfl := f17 (hdp 17 (by decide +kernel))
          obtain rfl := f22 (hdp 22 (by decide +kernel))
          obtain rfl := ph_eq (k := 0) dd23 hd dd11 (hdp 11 (by decide +kernel))
          have s := p1 rfl
          clear p0 p1 p2 p3 hj
          obtain ⟨b5, ea, s⟩ := s
          have kk := s.rfresh HBF.out.1 HBF.out.2 HM0.out HI150.out
          have HG : Hid _ := And.intro hS (And.intro ea s)
          clear hS s ea
          have HF : Hid _ := And.intro (And.intro f0 (And.intro f1 (And.intro f2 (And.intro f3 (And.intro f4 (And.intro f5 (And.intro f6 (And.intro f7 (And.intro f8 (And.intro f9 (And.intro f10 (And.intro f12 (And.intro f13 (And.intro f14 (And.intro f15 (And.intro f16 (And.intro f17 (And.intro f18 (And.intro f19 (And.intro f20 (And.intro f21 f22))))))))))))))))))))) (And.intro dd11 (And.intro dd23 dd24))
          clear f0 f1 f2 f3 f4 f5 f6 f7 f8 f9 f10 f12 f13 f14 f15 f16 f17 f18 f19 f20 f21 f22 dd11 dd23 dd24 hdp hd
          refine Opn.mk ?_
          dsimp only
          go_simp
          go_wp2_with (first | (go_at_call 26; with_reducible refine kk.mono ?_; rintro e5 w5 ⟨he5, G5⟩; subst he5))
          obtain ⟨hS, ea, s⟩ := HG.out
          obtain ⟨⟨f0, f1, f2, f3, f4, f5, f6, f7, f8, f9, f10, f12, f13, f14, f15, f16, f17, f18, f19, f20, f21, f22⟩, ⟨dd11, dd23, dd24⟩⟩ := HF.out
          refine hK.out (x29, x30, x31, x32, x33, x34, x35, x36, x37, x38, x39, x40, .pointer (some ⟨r, 0, none⟩), x42, x43, x44, x45, .int .i64 f, x47, x48, x49, x50, .int .u64 (id : Int), .bool b5, x53) _ ⟨?sg, ⟨(fun h => f0 (upd_ne h (by decide))), (fun h => f1 (upd_ne h (by decide))), (fun h => f2 (upd_ne h (by decide))), (fun h => f3 (upd_ne h (by decide))), (fun h => f4 (upd_ne h (by decide))), (fun h => f5 (upd_ne h (by decide))), (fun h => f6 (upd_ne h (by decide))), (fun h => f7 (upd_ne h (by decide))), (fun h => f8 (upd_ne h (by decide))), (fun h => f9 (upd_ne h (by decide))), (fun h => f10 (upd_ne h (by decide))), (fun _ => rfl), (fun h => f13 (upd_ne h (by decide))), (fun h => f14 (upd_ne h (by decide))), (fun h => f15 (upd_ne h (by decide))), (fun h => f16 (upd_ne h (by decide))), (fun _ => rfl), (fun h => f18 (upd_ne h (by decide))), (fun h => f19 (upd_ne h (by decide))), (fun h => f20 (upd_ne h (by decide))), (fun h => f21 (upd_ne h (by decide))), (fun _ => rfl)⟩, 2, by decide, ⟨((upd_no (by decide)).trans (dd11.trans (by decide))), (by simp [upd]), ((upd_no (by decide)).trans (dd24.trans (by decide)))⟩, ⟨(fun h => absurd h (by decide)), (fun h => absurd h (by decide)), (fun _ => ?new), (fun h => absurd h (by decide))⟩⟩
          case sg => exact G5.bl
          case new =>
            exact ⟨b5, ea, rfl, G5⟩
        · rintro d ⟨x29, x30, x31, x32, x33, x34, x35, x36, x37, x38, x39, x40, x41, x42, x43, x44, x45, x46, x47, x48, x49, x50, x51, x52, x53⟩ w' hI hd hdp KQ hK
          dsimp only at hI
          obtain ⟨hS, ⟨f0, f1, f2, f3, f4, f5, f6, f7, f8, f9, f10, f12, f13, f14, f15, f16, f17, f18, f19, f20, f21, f22⟩, j, hj, ⟨dd11, dd23, dd24⟩, ⟨p0, p1, p2, p3⟩⟩ := hI
          obtain rfl := ph_eq (k := 1) dd24 hd dd23 (hdp 23 (by decide +kernel))
          have s := p2 rfl
          clear p0 p1 p2 p3 hj
          obtain ⟨b5, ea, eb, s⟩ := s
          subst ea
          subst eb
          have HG : Hid _ := And.intro hS s
          clear hS s
          have hbb : (b5 != b5) = false := by cases b5 <;> rfl
          have HF : Hid _ := And.intro (And.intro f0 (And.intro f1 (And.intro f2 (And.intro f3 (And.intro f4 (And.intro f5 (And.intro f6 (And.intro f7 (And.intro f8 (And.intro f9 (And.intro f10 (And.intro f12 (And.intro f13 (And.intro f14 (And.intro f15 (And.intro f16 (And.intro f17 (And.intro f18 (And.intro f19 (And.intro f20 (And.intro f21 f22))))))))))))))))))))) (And.intro dd11 (And.intro dd23 dd24))
          clear f0 f1 f2 f3 f4 f5 f6 f7 f8 f9 f10 f12 f13 f14 f15 f16 f17 f18 f19 f20 f21 f22 dd11 dd23 dd24 hdp hd
          refine Opn.mk ?_
          dsimp only
          go_simp
          obtain ⟨hS, s⟩ := HG.out
          obtain ⟨⟨f0, f1, f2, f3, f4, f5, f6, f7, f8, f9, f10, f12, f13, f14, f15, f16, f17, f18, f19, f20, f21, f22⟩, ⟨dd11, dd23, dd24⟩⟩ := HF.out
          refine hK.out (x29, x30, x31, x32, x33, x34, x35, x36, x37, x38, x39, .bool b5, x41, x42, x43, x44, x45, x46, x47, x48, x49, x50, x51, .bool b5, .bool false) _ ⟨?sg, ⟨(fun h => f0 (upd_ne h (by decide))), (fun h => f1 (upd_ne h (by decide))), (fun h => f2 (upd_ne h (by decide))), (fun h => f3 (upd_ne h (by decide))), (fun h => f4 (upd_ne h (by decide))), (fun h => f5 (upd_ne h (by decide))), (fun h => f6 (upd_ne h (by decide))), (fun h => f7 (upd_ne h (by decide))), (fun h => f8 (upd_ne h (by decide))), (fun h => f9 (upd_ne h (by decide))), (fun h => f10 (upd_ne h (by decide))), (fun h => f12 (upd_ne h (by decide))), (fun h => f13 (upd_ne h (by decide))), (fun h => f14 (upd_ne h (by decide))), (fun h => f15 (upd_ne h (by decide))), (fun h => f16 (upd_ne h (by decide))), (fun h => f17 (upd_ne h (by decide))), (fun h => f18 (upd_ne h (by decide))), (fun h => f19 (upd_ne h (by decide))), (fun h => f20 (upd_ne h (by decide))), (fun h => f21 (upd_ne h (by decide))), (fun h => f22 (upd_ne h (by decide)))⟩, 3, by decide, ⟨((upd_no (by decide)).trans (dd11.trans (by decide))), ((upd_no (by decide)).trans (dd23.trans (by decide))), (by simp [upd])⟩, ⟨(fun h => absurd h (by decide)), (fun h => absurd h (by decide)), (fun h => absurd h (by decide)), (fun _ => ?new)⟩⟩
          case sg => exact hS
          case new =>
            exact ⟨rfl, s⟩
      case he29 =>
        rintro d ⟨x29, x30, x31, x32, x33, x34, x35, x36, x37, x38, x39, x40, x41, x42, x43, x44, x45, x46, x47, x48, x49, x50, x51, x52, x53⟩ w' hall hI
        dsimp only at hI
        obtain ⟨hS, ⟨f0, f1, f2, f3, f4, f5, f6, f7, f8, f9, f10, f12, f13, f14, f15, f16, f17, f18, f19, f20, f21, f22⟩, j, hj, ⟨dd11, dd23, dd24⟩, ⟨p0, p1, p2, p3⟩⟩ := hI
        obtain rfl := ph_end (k := 2) hj dd24 (hall 24 (by decide))
        have s := p3 rfl
        clear hall hj f0 f1 f2 f3 f4 f5 f6 f7 f8 f9 f10 f12 f13 f14 f15 f16 f17 f18 f19 f20 f21 f22 dd11 dd23 dd24 p0 p1 p2 p3
        obtain ⟨ea, s⟩ := s
        subst ea
        have HG : Hid _ := s
        clear hS s
        dsimp only
        go_wp2_with fail
        go_roundg (n - (i + 1))
        case measure => omega
        case rel => exact ⟨i + 1, by first | (rw [HW1.out]; rfl) | rfl, by omega, Nat.le_refl _, by omega, HG.out⟩
    · by_cases hlt2 : i < n
      · have hltz : (i : Int) < (n : Int) := by omega
        have hi1z : ¬ (i : Int) < 150 := by omega
        go_wp2_with fail
        go_ret
        exact ⟨rfl, HS.out.bl⟩
      · have hltz : ¬ (i : Int) < (n : Int) := by omega
        go_wp2_with fail
        go_ret
        exact ⟨rfl, HS.out.bl⟩
end Go.Proofs.Ytnkllgpibmofiaa
