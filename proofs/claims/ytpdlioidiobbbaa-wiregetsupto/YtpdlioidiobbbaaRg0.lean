/- The program's reader: what it got of each plain part, and where it is behind it. -/
import Derived.Test.YtpdlioidiobbbaaGsk
namespace Go.Proofs.Ytpdlioidiobbbaa
open Go.RowKit

def unz (n : Nat) : Int := if n % 2 = 1 then -((n / 2 : Nat) : Int) - 1 else ((n / 2 : Nat) : Int)
theorem unz_odd (n : Nat) (hn : n < 18446744073709551616) (h : n % 2 = 1) : wrap64 (bits .xor .u64 IntKind.u64.max ((n : Int) / 2)) = unz n := by
  have e2 : IntKind.u64.max = ((2 ^ 64 - 1 : Nat) : Int) := by decide
  have e3 : (n : Int) / 2 = ((n / 2 : Nat) : Int) := by omega
  rw [e2, e3, bits_xor_u64_nat _ _ (by decide) (by omega), Lib.xor_ones64 _ (by omega), ← IntWalk.i64_left, IntKind.wrap_i64]
  unfold unz
  rw [if_pos h]
  omega
set_option maxHeartbeats 400000 in
theorem unfolded_any (w : World) (n : Nat) (hn : n < 18446744073709551616) :
    Calls Try.prog 114 #[.int .u64 n] w fun er w' => er = .returned (.int .i64 (unz n)) ∧ w' = w := by
  have ha : bits .and .u64 (n : Int) 1 = (n : Int) % 2 := Lib.u64_and1 (n : Int) (by omega) (by omega)
  by_cases h : n % 2 = 1
  · have hb : (bits .and .u64 (n : Int) 1 == 1) = true := by rw [ha, beq_iff_eq]; omega
    have H := hide (unz_odd n hn h)
    clear h ha
    go_enter Try.func114, Try.ntmps114
    go_wp2
    go_ret
    exact ⟨ret_int (unhide H), rfl⟩
  · have hb : (bits .and .u64 (n : Int) 1 == 1) = false := by rw [ha, beq_eq_false_iff_ne]; omega
    have H := hide h
    clear h ha
    go_enter Try.func114, Try.ntmps114
    go_wp2
    go_ret
    exact ⟨ret_int (by unfold unz; rw [if_neg (unhide H)]; omega), rfl⟩
theorem unz_in (n : Nat) (h : n < 18446744073709551616) : In64 (unz n) := by
  unfold In64 unz
  split <;> omega
theorem zig_unz (n : Nat) (h : n < 18446744073709551616) : Lib.zigzag (unz n) = n := by
  unfold unz
  by_cases ho : n % 2 = 1
  · rw [if_pos ho]
    have h1 : -((n / 2 : Nat) : Int) - 1 < 0 := by omega
    unfold Lib.zigzag
    split <;> omega
  · rw [if_neg ho]
    unfold Lib.zigzag
    split <;> omega
/-- The bytes from p to below q. -/
def rd (l : Bs) (p q : Nat) : Bs := (l.drop p).take (q - p)
theorem rd_of {l b : Bs} {p q : Nat} (h : l.drop p = b ++ l.drop q) (hq : q = p + b.length) : rd l p q = b := by
  unfold rd
  rw [h, hq, Nat.add_sub_cancel_left, List.take_left]
theorem rd_app (l : Bs) {p q r : Nat} (h : p ≤ q) (k : q ≤ r) : rd l p r = rd l p q ++ rd l q r := by
  unfold rd
  have e : r - p = (q - p) + (r - q) := by omega
  rw [e, List.take_add, List.drop_drop, Nat.add_sub_cancel' h]
/-- It goes on, never beyond the end, and not at all behind an error. -/
structure Fwd (l : Bs) (f : Sg2 → Sg2) : Prop where
  le : ∀ s, s.1 ≤ l.length → s.1 ≤ (f s).1 ∧ (f s).1 ≤ l.length
  stay : ∀ s, s.2 ≠ 0 → f s = s
theorem Fwd.comp {l : Bs} {f g : Sg2 → Sg2} (h : Fwd l f) (k : Fwd l g) : Fwd l (fun s => g (f s)) :=
  ⟨fun s hs => ⟨Nat.le_trans (h.le s hs).1 (k.le _ (h.le s hs).2).1, (k.le _ (h.le s hs).2).2⟩, fun s hs => by show g (f s) = s; rw [h.stay s hs, k.stay s hs]⟩
theorem fwd_u (l : Bs) : Fwd l (skU l) := by
  refine ⟨fun s hs => ⟨?_, Rd.uS_le l s.1 s.2 hs⟩, fun s hs => ?_⟩
  · show s.1 ≤ (Rd.uS l s.1 s.2).2.1
    unfold Rd.uS
    split
    · exact Nat.le_refl _
    · simp only
      split
      · exact Nat.le_add_right _ _
      · exact Nat.le_refl _
  · show (Rd.uS l s.1 s.2).2 = s
    unfold Rd.uS
    rw [if_pos hs]
/-- What was got: the reader is where f leads; nothing old but it has changed; b are the bytes that were read. -/
structure Got (B R : Nat) (l : Bs) (w w' : World) (s : Sg2) (f : Sg2 → Sg2) (b : Bs) : Prop where
  ps : PS B w' R l (f s).1 (f s).2
  g : w.grownBy w' (some R)
  b : s.2 = 0 → (f s).2 = 0 → b = rd l s.1 (f s).1
theorem Got.comp {B R : Nat} {l : Bs} {w w1 w2 : World} {s : Sg2} {f g : Sg2 → Sg2} {a b : Bs} (hs : s.1 ≤ l.length) (hf : Fwd l f) (hg : Fwd l g) (h : Got B R l w w1 s f a) (k : Got B R l w1 w2 (f s) g b) : Got B R l w w2 s (fun s => g (f s)) (a ++ b) := by
  refine ⟨k.ps, grown_trans' h.g k.g, fun h0 h2 => ?_⟩
  have h1 : (f s).2 = 0 := Classical.byContradiction fun hn => hn (by have e := hg.stay (f s) hn; have h3 : (g (f s)).2 = 0 := h2; rw [e] at h3; exact h3)
  show a ++ b = rd l s.1 (g (f s)).1
  rw [h.b h0 h1, k.b h1 h2, ← rd_app l (hf.le s hs).1 (hg.le _ (hf.le s hs).2).1]
theorem PS.le {B R p e : Nat} {w : World} {l : Bs} (h : PS B w R l p e) : p ≤ l.length := h.2.1
theorem uS_rd (l : Bs) (p n p' : Nat) (h : Rd.uS l p 0 = (n, p', 0)) : rd l p p' = Num.uv n := by
  obtain ⟨h1, h2, h3⟩ := Rd.uS_canon l p n p' h
  refine rd_of h3 ?_
  have e := congrArg List.length h3
  rw [List.length_append, List.length_drop, List.length_drop] at e
  rw [List.length_drop] at h2
  omega
theorem u_bytes (l : Bs) (s : Sg2) (h0 : s.2 = 0) (h : (skU l s).2 = 0) : Num.uv (Rd.uS l s.1 s.2).1 = rd l s.1 (skU l s).1 := by
  obtain ⟨p, e⟩ := s
  simp only at h0
  subst h0
  refine (uS_rd l p _ _ ?_).symm
  show Rd.uS l p 0 = ((Rd.uS l p 0).1, (Rd.uS l p 0).2.1, 0)
  have h2 : (Rd.uS l p 0).2.2 = 0 := h
  exact Prod.ext rfl (Prod.ext rfl h2)
theorem guint (B R : Nat) (l : Bs) (w : World) (p e : Nat) (h : PS B w R l p e) :
    Calls Try.prog 39 #[.pointer (some ⟨R, 0, none⟩)] w fun er w' => ∃ n : Nat, er = .returned (.int .u64 (n : Int)) ∧ InU n ∧ Got B R l w w' (p, e) (skU l) (Num.uv n) := by
  refine (uint_p B w R l p e h).mono ?_
  rintro er w' ⟨rfl, h1, g1⟩
  exact ⟨_, rfl, Rd.uS_lt l p e, h1, g1, fun h0 h2 => u_bytes l (p, e) h0 h2⟩
set_option maxHeartbeats 400000 in
theorem gint (B R : Nat) (l : Bs) (w : World) (p e : Nat) (h : PS B w R l p e) :
    Calls Try.prog 93 #[.pointer (some ⟨R, 0, none⟩)] w fun er w' => ∃ k : Int, er = .returned (.int .i64 k) ∧ In64 k ∧ Got B R l w w' (p, e) (skU l) (ei k) := by
  have kU := guint B R l w p e h
  clear h
  go_enter Try.func93, Try.ntmps93
  go_wp2_with fail
  refine kU.mono ?_
  rintro er w1 ⟨n, rfl, hn, G⟩
  go_wp2_with fail
  refine (unfolded_any w1 n hn).mono ?_
  rintro er w2 ⟨rfl, rfl⟩
  go_wp2_with fail
  go_ret
  refine ⟨unz n, rfl, unz_in n hn, ?_⟩
  unfold ei
  rw [zig_unz n hn]
  exact G
theorem gwhole (B R : Nat) (l : Bs) (w : World) (p e : Nat) (h : PS B w R l p e) :
    Calls Try.prog 37 #[.pointer (some ⟨R, 0, none⟩)] w fun er w' => ∃ k : Int, er = .returned (.int .i64 k) ∧ In64 k ∧ Got B R l w w' (p, e) (skU l) (ei k) := by
  have kU := gint B R l w p e h
  clear h
  go_enter Try.func37, Try.ntmps37
  go_wp2_with fail
  refine kU.mono ?_
  rintro er w1 ⟨k, rfl, hk, G⟩
  go_wp2_with fail
  go_ret
  exact ⟨k, rfl, hk, G⟩
end Go.Proofs.Ytpdlioidiobbbaa
