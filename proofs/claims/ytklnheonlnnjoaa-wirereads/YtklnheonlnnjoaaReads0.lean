/- The walk of WireReads. -/
import Derived.Test.YtklnheonlnnjoaaRdText
namespace Go.Proofs.Ytklnheonlnnjoaa
open Go.RowKit

set_option maxHeartbeats 400000 in
theorem read_any (w : World) (a : Option Addr) (n c : Nat) : Calls Try.prog 17 #[.slice a n c] w fun er w' => er = .returned (.pointer (some ⟨w.heap.size, 0, none⟩)) ∧ w' = w.alloc (.cells #[.slice a n c, .int .i64 0] 57) := by
  go_enter Try.func17, Try.ntmps17
  go_wp2
  go_ret
  exact ⟨rfl, rfl⟩
set_option maxHeartbeats 400000 in
theorem uint_nil (w : World) : Calls Try.prog 18 #[.pointer none] w fun er w' => er = .returned (.int .u64 0) ∧ w' = w := by
  go_enter Try.func18, Try.ntmps18
  go_wp2
  go_ret
  exact ⟨rfl, rfl⟩
set_option maxHeartbeats 400000 in
theorem left_nil (w : World) : Calls Try.prog 26 #[.pointer none] w fun er w' => er = .returned (.int .i64 0) ∧ w' = w := by
  go_enter Try.func26, Try.ntmps26
  go_wp2
  go_ret
  exact ⟨rfl, rfl⟩
set_option maxHeartbeats 400000 in
theorem end_nil (w : World) : Calls Try.prog 28 #[.pointer none] w fun er w' => er = .returned (.int .i64 1) ∧ w' = w := by
  go_enter Try.func28, Try.ntmps28
  go_wp2
  go_ret
  exact ⟨rfl, rfl⟩
set_option maxHeartbeats 400000 in
theorem int_nil (w : World) : Calls Try.prog 20 #[.pointer none] w fun er w' => er = .returned (.int .i64 0) ∧ w' = w := by
  go_enter Try.func20, Try.ntmps20
  go_wp2_with fail
  refine (uint_nil w).mono ?_
  rintro er w1 ⟨rfl, rfl⟩
  go_wp2_with fail
  refine (unfolded_any _ 0 (by omega)).mono ?_
  rintro er w2 ⟨rfl, rfl⟩
  go_wp2_with fail
  go_ret
  exact ⟨rfl, rfl⟩
set_option maxHeartbeats 400000 in
theorem count_nil (w : World) : Calls Try.prog 24 #[.pointer none, .int .i64 1] w fun er w' => er = .returned (.int .i64 0) ∧ w' = w := by
  go_enter Try.func24, Try.ntmps24
  go_wp2_with fail
  refine (uint_nil w).mono ?_
  rintro er w1 ⟨rfl, rfl⟩
  go_wp2_with fail
  refine (left_nil _).mono ?_
  rintro er w2 ⟨rfl, rfl⟩
  go_wp2
  go_ret
  exact ⟨rfl, rfl⟩
set_option maxHeartbeats 400000 in
theorem text_nil (w : World) : Calls Try.prog 22 #[.pointer none] w fun er w' => er = .returned (.string ⟨#[]⟩) ∧ w' = w := by
  go_enter Try.func22, Try.ntmps22
  go_wp2_with fail
  refine (count_nil w).mono ?_
  rintro er w1 ⟨rfl, rfl⟩
  go_wp2
  go_ret
  exact ⟨rfl, rfl⟩

theorem tdiv4 (z : Int) (h1 : -9223372036854775808 ≤ z) (h2 : z ≤ 9223372036854775807) : -9223372036854775808 ≤ z.tdiv 4 ∧ z.tdiv 4 ≤ 9223372036854775807 := by
  by_cases h : 0 ≤ z
  · rw [Int.tdiv_eq_ediv_of_nonneg h]; omega
  · have e : z = -(-z) := by omega
    rw [e, Int.neg_tdiv, Int.tdiv_eq_ediv_of_nonneg (by omega)]; omega

/-- Both readers, at one place, with one error. -/
structure Inv (B : Nat) (w : World) (R K : Nat) (l : List UInt8) (v : Value) (p e : Nat) : Prop where
  ps : PS B w R l p e
  ks : KS w K v p e
  rd : ReadsB B w v l
  hR : R < w.heap.size
  hK : K < w.heap.size
  ne : K ≠ R
  bK : B ≤ K

theorem KS.keep {w w' : World} {K R : Nat} {v : Value} {p e : Nat} (h : KS w K v p e) (hg : w.grownBy w' (some R)) (hK : K < w.heap.size) (hne : K ≠ R) : KS w' K v p e := by
  unfold KS
  rw [hg.block K hK (by intro e; cases e; exact hne rfl)]
  exact h
theorem PS.keep {B : Nat} {w w' : World} {K R : Nat} {l : List UInt8} {p e : Nat} (h : PS B w R l p e) (hg : w.grownBy w' (some K)) (hR : R < w.heap.size) (hne : K ≠ R) (hb : Below B w w') : PS B w' R l p e := by
  obtain ⟨hB, hp, lv, hh, hr, hn⟩ := h
  refine ⟨hB, hp, lv, ?_, hr.keep hb, hn⟩
  rw [hg.block R hR (by intro e; cases e; exact hne rfl)]
  exact hh
/-- Behind a call of each: the program's first. -/
theorem Inv.both {B : Nat} {w w1 w2 : World} {R K : Nat} {l : List UInt8} {v : Value} {p e p' e' : Nat} (h : Inv B w R K l v p e) (g1 : w.grownBy w1 (some R)) (h1 : PS B w1 R l p' e') (g2 : w1.grownBy w2 (some K)) (h2 : KS w2 K v p' e') :
    Inv B w2 R K l v p' e' ∧ Below B w w2 := by
  have b1 := grown_B g1 h.ps.1 h.hR
  have b2 := grown_B g2 h.bK (Nat.lt_of_lt_of_le h.hK g1.size)
  exact ⟨⟨h1.keep g2 (Nat.lt_of_lt_of_le h.hR g1.size) h.ne b2, h2, (h.rd.keep b1).keep b2, Nat.lt_of_lt_of_le (Nat.lt_of_lt_of_le h.hR g1.size) g2.size, Nat.lt_of_lt_of_le (Nat.lt_of_lt_of_le h.hK g1.size) g2.size, h.ne, h.bK⟩, b1.trans b2⟩
theorem Inv.k1 {B : Nat} {w w1 : World} {R K : Nat} {l : List UInt8} {v : Value} {p e : Nat} (h : Inv B w R K l v p e) (g1 : w.grownBy w1 (some R)) : KS w1 K v p e ∧ ReadsB B w1 v l ∧ (∀ w', w1.grownBy w' (some K) → Reads w' v l) := by
  have b1 := grown_B g1 h.ps.1 h.hR
  refine ⟨h.ks.keep g1 h.hK h.ne, h.rd.keep b1, fun w' g => ?_⟩
  exact ((h.rd.keep b1).keep (grown_B g h.bK (Nat.lt_of_lt_of_le h.hK g1.size))).1
theorem Inv.drewN {B : Nat} {w : World} {R K : Nat} {l : List UInt8} {v : Value} {p e : Nat} (h : Inv B w R K l v p e) (n : Nat) : Inv B (w.drewN n) R K l v p e :=
  ⟨⟨h.ps.1, h.ps.2.1, h.ps.2.2⟩, h.ks, h.rd, h.hR, h.hK, h.ne, h.bK⟩
theorem tS_le (l : List UInt8) (p e : Nat) (hp : p ≤ l.length) : (tS l p e).2.1 ≤ l.length := by
  obtain ⟨h1, h2, h3⟩ := cS_facts l p e 1 hp
  unfold tS
  split
  · exact h1
  · exact h3 (by omega)

set_option maxRecDepth 100000 in
set_option maxHeartbeats 1600000 in
theorem reads_any (w : World) (a : Option Addr) (N c : Nat) (l : List UInt8) (hN : N = l.length) (hr : Reads w (.slice a N c) l) (a1 : Option Addr) (len cap : Nat) (zs : List Int)
    (hcl : ∀ i, i < len → ∃ b off, a1 = some ⟨b, off, none⟩ ∧ w.cell? ⟨b, off + i, none⟩ = some (.int .i64 (zs.getD i 0)) ∧ b < w.heap.size) (hz : ∀ i, i < len → -9223372036854775808 ≤ zs.getD i 0 ∧ zs.getD i 0 ≤ 9223372036854775807) (hlen : len ≤ 2 ^ 63 - 1) :
    Calls Try.prog 5 #[.slice a N c, .slice a1 len cap] w fun e w' => e = .returned (.bool true) ∧ Below w.heap.size w w' := by
  subst hN
  have hlb : l.length ≤ 2 ^ 63 - 1 := by obtain ⟨ao, cap, he, q1, q2, _⟩ := id hr; unfold maxLen at q2; omega
  have HCL := hide hcl
  have HZ := hide hz
  clear hcl hz
  go_enter Try.func5, Try.ntmps5
  go_wp2_with fail
  refine (awake_any w).mono ?_
  rintro e u1 ⟨rfl, b1⟩
  go_wp2_with fail
  refine (read_any u1 a l.length c).mono ?_
  rintro e u2 ⟨rfl, hu2⟩
  subst hu2
  go_wp2_with fail
  have rB : ReadsB w.heap.size w (.slice a l.length c) l := by
    refine ⟨hr, fun ad n c hv hn => ?_⟩
    cases hv
    obtain ⟨b, off, hb, hc⟩ := hr.cells.2.2.2 hn
    cases hb
    exact World.block_lt_of_cell? _ _ (hc 0 hn)
  have hu : w.heap.size ≤ u1.heap.size := b1.size
  have bel0 : Below w.heap.size w ((u1.alloc (.cells #[.slice a l.length c, .int .i64 0] 57)).alloc (.cells #[.slice a l.length c, .int .i64 0, .int .i64 0] 41)) := (b1.alloc hu _).alloc (by simp; omega) _
  have inv0 : Inv w.heap.size ((u1.alloc (.cells #[.slice a l.length c, .int .i64 0] 57)).alloc (.cells #[.slice a l.length c, .int .i64 0, .int .i64 0] 41)) u1.heap.size (u1.heap.size + 1) l (.slice a l.length c) 0 0 := by
    refine ⟨⟨hu, by omega, .slice a l.length c, ?_, ?_, fun h => absurd rfl h⟩, ?_, rB.keep bel0, by simp; omega, by simp, by omega, by omega⟩
    · show ((u1.heap.push _).push _)[u1.heap.size]? = _
      simp only [Array.getElem?_push, Array.size_push]
      rw [if_neg (by omega), if_pos trivial]
      rfl
    · rw [if_pos rfl, List.drop_zero]; exact rB.keep bel0
    · show ((u1.heap.push _).push _)[u1.heap.size + 1]? = _
      simp only [Array.getElem?_push, Array.size_push]
      rw [if_pos trivial]
      rfl
  clear rB hr
  go_loopw [8] (fun vi wr => ∃ i p e : Nat, i ≤ len ∧ i ≤ 60 ∧ vi = .int .i64 i ∧ Inv w.heap.size wr u1.heap.size (u1.heap.size + 1) l (.slice a l.length c) p e ∧ Below w.heap.size w wr) (fun vi _ => len - (intOf vi).toNat)
  case atStart => exact ⟨0, 0, 0, by omega, by omega, rfl, inv0, bel0⟩
  case round =>
    obtain ⟨i, p, e, hi, hi60, rfl, inv, bel⟩ := hrel
    clear inv0 bel0
    by_cases hlt : i < len ∧ i < 60
    · obtain ⟨hlt, h60⟩ := hlt
      obtain ⟨b, off, rfl, hck, hb⟩ := unhide HCL i hlt
      have hck' : wr.cell? ⟨b, off + i, none⟩ = some (.int .i64 (zs.getD i 0)) := by rw [bel.cell (p := ⟨b, off + i, none⟩) hb]; exact hck
      obtain ⟨hz1, hz2⟩ := unhide HZ i hlt
      have hpl := inv.ps.2.1
      clear hck HCL
      generalize zs.getD i 0 = z at *
      have hlt' : (i : Int) < (len : Int) := by omega
      have h60' : (i : Int) < 60 := by omega
      by_cases t0 : z.tmod 4 = 0
      · have q0 : (z.tmod 4 == 0) = true := by rw [beq_iff_eq]; exact t0
        clear t0
        go_wp2_with fail
        refine (uint_p _ _ _ l p e inv.ps).mono ?_
        rintro er x1 ⟨rfl, h1, g1⟩
        obtain ⟨k1, k2, k3⟩ := inv.k1 g1
        go_wp2_with fail
        refine (refrd_any _ _ _ l p e k1 k2.1 hpl).mono ?_
        rintro er x2 ⟨rfl, h2, g2⟩
        clear k1 k2 k3
        obtain ⟨inv2, bB⟩ := inv.both g1 h1 g2 h2
        have bW := bel.trans bB
        have hple := inv2.ps.2.1
        clear h1 g1 h2 g2 inv bel bB
        go_wp2_with fail
        refine (left_p _ _ _ l _ _ inv2.ps).mono ?_
        rintro er y1 ⟨rfl, hy1⟩
        subst hy1
        go_wp2_with fail
        refine (left_k _ _ _ l _ _ inv2.ks inv2.rd.1 hple).mono ?_
        rintro er y2 ⟨rfl, m2, hy2⟩
        subst hy2
        have inv3 := inv2.drewN m2
        have inv4 := fun m4 => inv2.drewN (m2 + m4)
        go_wp2_with fail
        refine (end_p _ _ _ l _ _ inv3.ps).mono ?_
        rintro er y3 ⟨rfl, hy3⟩
        subst hy3
        go_wp2_with fail
        refine (end_k _ _ _ l _ _ inv3.ks inv3.rd.1).mono ?_
        rintro er y4 ⟨rfl, m4, hy4⟩
        subst hy4
        have bW4 := below_drewN bW (m2 + m4)
        clear inv2 inv3 bW
        go_wp2
        go_roundw
        case rel => exact ⟨i + 1, _, _, by omega, by omega, by go_num, inv4 m4, bW4⟩
        case measure => simp [intOf]; omega
      · have q0 : (z.tmod 4 == 0) = false := by rw [beq_eq_false_iff_ne]; exact t0
        clear t0
        by_cases t1 : z.tmod 4 = 1
        · have q1 : (z.tmod 4 == 1) = true := by rw [beq_iff_eq]; exact t1
          clear t1
          go_wp2_with fail
          refine (int_p _ _ _ l p e inv.ps).mono ?_
          rintro er x1 ⟨rfl, h1, g1⟩
          obtain ⟨k1, k2, k3⟩ := inv.k1 g1
          go_wp2_with fail
          refine (refint_rd _ _ _ l p e k1 k2.1 hpl).mono ?_
          rintro er x2 ⟨rfl, h2, g2⟩
          clear k1 k2 k3
          obtain ⟨inv2, bB⟩ := inv.both g1 h1 g2 h2
          have bW := bel.trans bB
          have hple := inv2.ps.2.1
          clear h1 g1 h2 g2 inv bel bB
          go_wp2_with fail
          refine (left_p _ _ _ l _ _ inv2.ps).mono ?_
          rintro er y1 ⟨rfl, hy1⟩
          subst hy1
          go_wp2_with fail
          refine (left_k _ _ _ l _ _ inv2.ks inv2.rd.1 hple).mono ?_
          rintro er y2 ⟨rfl, m2, hy2⟩
          subst hy2
          have inv3 := inv2.drewN m2
          have inv4 := fun m4 => inv2.drewN (m2 + m4)
          go_wp2_with fail
          refine (end_p _ _ _ l _ _ inv3.ps).mono ?_
          rintro er y3 ⟨rfl, hy3⟩
          subst hy3
          go_wp2_with fail
          refine (end_k _ _ _ l _ _ inv3.ks inv3.rd.1).mono ?_
          rintro er y4 ⟨rfl, m4, hy4⟩
          subst hy4
          have bW4 := below_drewN bW (m2 + m4)
          clear inv2 inv3 bW
          go_wp2
          go_roundw
          case rel => exact ⟨i + 1, _, _, by omega, by omega, by go_num, inv4 m4, bW4⟩
          case measure => simp [intOf]; omega
        · have q1 : (z.tmod 4 == 1) = false := by rw [beq_eq_false_iff_ne]; exact t1
          clear t1
          by_cases t2 : z.tmod 4 = 2
          · have q2 : (z.tmod 4 == 2) = true := by rw [beq_iff_eq]; exact t2
            clear t2
            go_wp2_with fail
            refine (text_p _ _ _ l p e inv.ps hlb).mono ?_
            rintro er x1 ⟨rfl, h1, g1⟩
            obtain ⟨k1, k2, k3⟩ := inv.k1 g1
            go_wp2_with fail
            refine (text_k _ _ _ l p e k1 k3 hpl hlb).mono ?_
            rintro er x2 ⟨rfl, h2, g2⟩
            clear k1 k2 k3
            obtain ⟨inv2, bB⟩ := inv.both g1 h1 g2 h2
            have bW := bel.trans bB
            have hple := inv2.ps.2.1
            clear h1 g1 h2 g2 inv bel bB
            go_wp2_with fail
            refine (left_p _ _ _ l _ _ inv2.ps).mono ?_
            rintro er y1 ⟨rfl, hy1⟩
            subst hy1
            go_wp2_with fail
            refine (left_k _ _ _ l _ _ inv2.ks inv2.rd.1 hple).mono ?_
            rintro er y2 ⟨rfl, m2, hy2⟩
            subst hy2
            have inv3 := inv2.drewN m2
            have inv4 := fun m4 => inv2.drewN (m2 + m4)
            go_wp2_with fail
            refine (end_p _ _ _ l _ _ inv3.ps).mono ?_
            rintro er y3 ⟨rfl, hy3⟩
            subst hy3
            go_wp2_with fail
            refine (end_k _ _ _ l _ _ inv3.ks inv3.rd.1).mono ?_
            rintro er y4 ⟨rfl, m4, hy4⟩
            subst hy4
            have bW4 := below_drewN bW (m2 + m4)
            clear inv2 inv3 bW
            go_wp2
            go_roundw
            case rel => exact ⟨i + 1, _, _, by omega, by omega, by go_num, inv4 m4, bW4⟩
            case measure => simp [intOf]; omega
          · have q2 : (z.tmod 4 == 2) = false := by rw [beq_eq_false_iff_ne]; exact t2
            clear t2
            obtain ⟨d1, d2⟩ := tdiv4 z hz1 hz2
            go_wp2_with fail
            refine (count_p _ _ _ l p e (z.tdiv 4) inv.ps d1 d2 hlb).mono ?_
            rintro er x1 ⟨rfl, h1, g1⟩
            obtain ⟨k1, k2, k3⟩ := inv.k1 g1
            go_wp2_with fail
            refine (count_k _ _ _ l p e (z.tdiv 4) k1 k3 hpl d1 d2 hlb).mono ?_
            rintro er x2 ⟨rfl, h2, g2⟩
            clear k1 k2 k3
            obtain ⟨inv2, bB⟩ := inv.both g1 h1 g2 h2
            have bW := bel.trans bB
            have hple := inv2.ps.2.1
            clear h1 g1 h2 g2 inv bel bB
            go_wp2_with fail
            refine (left_p _ _ _ l _ _ inv2.ps).mono ?_
            rintro er y1 ⟨rfl, hy1⟩
            subst hy1
            go_wp2_with fail
            refine (left_k _ _ _ l _ _ inv2.ks inv2.rd.1 hple).mono ?_
            rintro er y2 ⟨rfl, m2, hy2⟩
            subst hy2
            have inv3 := inv2.drewN m2
            have inv4 := fun m4 => inv2.drewN (m2 + m4)
            go_wp2_with fail
            refine (end_p _ _ _ l _ _ inv3.ps).mono ?_
            rintro er y3 ⟨rfl, hy3⟩
            subst hy3
            go_wp2_with fail
            refine (end_k _ _ _ l _ _ inv3.ks inv3.rd.1).mono ?_
            rintro er y4 ⟨rfl, m4, hy4⟩
            subst hy4
            have bW4 := below_drewN bW (m2 + m4)
            clear inv2 inv3 bW
            go_wp2
            go_roundw
            case rel => exact ⟨i + 1, _, _, by omega, by omega, by go_num, inv4 m4, bW4⟩
            case measure => simp [intOf]; omega
    · have hno : i = len ∨ i = 60 := by omega
      clear HCL HZ
      by_cases h1 : i < len
      · have h1' : (i : Int) < (len : Int) := by omega
        have h2' : ¬ (i : Int) < 60 := by omega
        clear hno hlt h1
        have bW := bel
        clear bel inv
        go_wp2_with fail
        refine (uint_nil _).mono ?_
        rintro er y0 ⟨rfl, hy0⟩
        subst hy0
        go_wp2_with fail
        refine (int_nil _).mono ?_
        rintro er y1 ⟨rfl, hy1⟩
        subst hy1
        go_wp2_with fail
        refine (text_nil _).mono ?_
        rintro er y2 ⟨rfl, hy2⟩
        subst hy2
        go_wp2_with fail
        refine (count_nil _).mono ?_
        rintro er y3 ⟨rfl, hy3⟩
        subst hy3
        go_wp2_with fail
        refine (left_nil _).mono ?_
        rintro er y4 ⟨rfl, hy4⟩
        subst hy4
        go_wp2_with fail
        refine (end_nil _).mono ?_
        rintro er y5 ⟨rfl, hy5⟩
        subst hy5
        go_wp2
        go_ret
        exact ⟨rfl, bW⟩
      · have h1' : ¬ (i : Int) < (len : Int) := by omega
        clear hno hlt h1
        have bW := bel
        clear bel inv
        go_wp2_with fail
        refine (uint_nil _).mono ?_
        rintro er y0 ⟨rfl, hy0⟩
        subst hy0
        go_wp2_with fail
        refine (int_nil _).mono ?_
        rintro er y1 ⟨rfl, hy1⟩
        subst hy1
        go_wp2_with fail
        refine (text_nil _).mono ?_
        rintro er y2 ⟨rfl, hy2⟩
        subst hy2
        go_wp2_with fail
        refine (count_nil _).mono ?_
        rintro er y3 ⟨rfl, hy3⟩
        subst hy3
        go_wp2_with fail
        refine (left_nil _).mono ?_
        rintro er y4 ⟨rfl, hy4⟩
        subst hy4
        go_wp2_with fail
        refine (end_nil _).mono ?_
        rintro er y5 ⟨rfl, hy5⟩
        subst hy5
        go_wp2
        go_ret
        exact ⟨rfl, bW⟩
end Go.Proofs.Ytklnheonlnnjoaa
