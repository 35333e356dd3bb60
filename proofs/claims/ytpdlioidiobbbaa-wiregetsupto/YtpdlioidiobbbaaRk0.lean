/- The reference's reader: where it is, and what it got of each plain part. -/
import Derived.Test.YtpdlioidiobbbaaRg3
namespace Go.Proofs.Ytpdlioidiobbbaa
open Go.RowKit

/-- The reference's reader of l in block K: behind p bytes, with the first error e. -/
structure RP (B K : Nat) (v : Value) (l : Bs) (w : World) (p e : Nat) : Prop where
  b : B ≤ K
  ks : KS w K v p e
  rd : ReadsB B w v l
  le : p ≤ l.length
theorem RP.lt {B K p e : Nat} {v : Value} {l : Bs} {w : World} (h : RP B K v l w p e) : K < w.heap.size := (Array.getElem?_eq_some_iff.1 h.ks).1
theorem RP.go {B K p e p' e' : Nat} {v : Value} {l : Bs} {w w' : World} (h : RP B K v l w p e) (hk : KS w' K v p' e') (hg : w.grownBy w' (some K)) (hp : p' ≤ l.length) : RP B K v l w' p' e' := ⟨h.b, hk, h.rd.keep (grown_B hg h.b h.lt), hp⟩
theorem RP.keep {B K p e : Nat} {v : Value} {l : Bs} {w w' : World} (h : RP B K v l w p e) (hb : Below (K + 1) w w') : RP B K v l w' p e := by
  refine ⟨h.b, ?_, h.rd.keep (hb.mono (Nat.le_succ_of_le h.b)), h.le⟩
  unfold KS
  rw [hb.block K (Nat.lt_succ_self K)]
  exact h.ks
theorem RP.all {B K p e : Nat} {v : Value} {l : Bs} {w : World} (h : RP B K v l w p e) : ∀ w', w.grownBy w' (some K) → Reads w' v l := fun _ hg => (h.rd.keep (grown_B hg h.b h.lt)).1
theorem RP.ktt {B K p e : Nat} {v : Value} {l : Bs} {w w' : World} (h : RP B K v l w p e) (hg : w.grownBy w' (some K)) : KTT [104] w w' :=
  KTT.of_grown hg fun g cs t fr hr hb => by
    simp only [Option.some.injEq] at hr
    subst hr
    rw [show w.heap[K]? = _ from h.ks] at hb
    cases hb
    simp
/-- What was got. -/
structure GK (B K : Nat) (v : Value) (l : Bs) (w w' : World) (s : Sg2) (f : Sg2 → Sg2) (b : Bs) : Prop where
  ps : RP B K v l w' (f s).1 (f s).2
  g : w.grownBy w' (some K)
  b : s.2 = 0 → (f s).2 = 0 → b = rd l s.1 (f s).1
theorem GK.comp {B K : Nat} {v : Value} {l : Bs} {w w1 w2 : World} {s : Sg2} {f g : Sg2 → Sg2} {a b : Bs} (hs : s.1 ≤ l.length) (hf : Fwd l f) (hg : Fwd l g) (h : GK B K v l w w1 s f a) (k : GK B K v l w1 w2 ((f s).1, (f s).2) g b) : GK B K v l w w2 s (fun s => g (f s)) (a ++ b) := by
  refine ⟨k.ps, grown_trans' h.g k.g, fun h0 h2 => ?_⟩
  have h1 : (f s).2 = 0 := Classical.byContradiction fun hn => hn (by have e := hg.stay (f s) hn; have h3 : (g (f s)).2 = 0 := h2; rw [e] at h3; exact h3)
  show a ++ b = rd l s.1 (g (f s)).1
  have k2 := k.b h1 h2
  rw [h.b h0 h1]
  exact (congrArg (rd l s.1 (f s).1 ++ ·) k2).trans (rd_app l (hf.le s hs).1 (hg.le _ (hf.le s hs).2).1).symm
theorem kuint (B K : Nat) (v : Value) (l : Bs) (w : World) (p e : Nat) (h : RP B K v l w p e) :
    Calls Try.prog 59 #[.pointer (some ⟨K, 0, none⟩)] w fun er w' => ∃ n : Nat, er = .returned (.int .u64 (n : Int)) ∧ InU n ∧ GK B K v l w w' (p, e) (skU l) (Num.uv n) := by
  refine (refrd_any w K v l p e h.ks h.rd.1 h.le).mono ?_
  rintro er w' ⟨rfl, h1, g1⟩
  exact ⟨_, rfl, Rd.uS_lt l p e, h.go h1 g1 (Rd.uS_le l p e h.le), g1, fun h0 h2 => u_bytes l (p, e) h0 h2⟩
theorem kcount (B K : Nat) (v : Value) (l : Bs) (w : World) (p e : Nat) (hlb : l.length ≤ 1048576) (h : RP B K v l w p e) :
    Calls Try.prog 62 #[.pointer (some ⟨K, 0, none⟩), .int .i64 1] w fun er w' => er = .returned (.int .i64 (cS l p e 1).1) ∧ RP B K v l w' (cS l p e 1).2.1 (cS l p e 1).2.2 ∧ w.grownBy w' (some K) := by
  refine (count_k w K v l p e 1 h.ks h.all h.le (by omega) (by omega) (Nat.le_trans hlb (by decide))).mono ?_
  rintro er w' ⟨rfl, h1, g1⟩
  exact ⟨rfl, h.go h1 g1 ((fwd_c l).le (p, e) h.le).2, g1⟩
theorem text_bytes (l : Bs) (s : Sg2) (hple : s.1 ≤ l.length) (h0 : s.2 = 0) (h2 : (skT l s).2 = 0) : et (tS l s.1 s.2).1 = rd l s.1 (skT l s).1 := by
  obtain ⟨p, e⟩ := s
  obtain ⟨k1, k2, k3⟩ := cS_facts l p e 1 hple
  have hc : ¬ (cS l p e 1).2.2 ≠ 0 := fun hn => by
    have h3 : (tS l p e).2.2 = 0 := h2
    unfold tS at h3
    rw [if_pos hn] at h3
    exact hn h3
  have hc0 : (cS l p e 1).2.2 = 0 := Classical.not_not.1 hc
  have hb := c_bytes l (p, e) h0 hc0
  have e1 : tS l p e = ((l.drop (cS l p e 1).2.1).take (cS l p e 1).1, (cS l p e 1).2.1 + (cS l p e 1).1, 0) := by unfold tS; rw [if_neg hc]
  have e2 : (skT l (p, e)).1 = (cS l p e 1).2.1 + (cS l p e 1).1 := by show (tS l p e).2.1 = _; rw [e1]
  have hlen : ((l.drop (cS l p e 1).2.1).take (cS l p e 1).1).length = (cS l p e 1).1 := by
    rw [List.length_take, List.length_drop]
    have := k3 hc0
    omega
  show et (tS l p e).1 = rd l p (skT l (p, e)).1
  rw [e2, e1]
  unfold et
  simp only
  rw [hlen, hb.1]
  have hle := (fwd_c l).le (p, e) hple
  have hr := rd_app l (p := p) (q := (cS l p e 1).2.1) (r := (cS l p e 1).2.1 + (cS l p e 1).1) hle.1 (Nat.le_add_right _ _)
  rw [hr]
  show rd l p (cS l p e 1).2.1 ++ _ = _
  congr 1
  unfold rd
  rw [Nat.add_sub_cancel_left]
set_option maxHeartbeats 800000 in
theorem kint (B K : Nat) (v : Value) (l : Bs) (w : World) (p e : Nat) (h : RP B K v l w p e) :
    Calls Try.prog 60 #[.pointer (some ⟨K, 0, none⟩)] w fun er w' => ∃ k : Int, er = .returned (.int .i64 k) ∧ In64 k ∧ GK B K v l w w' (p, e) (skU l) (ei k) := by
  have kU := kuint B K v l w p e h
  clear h
  go_enter Try.func60, Try.ntmps60
  go_wp2_with fail
  refine kU.mono ?_
  rintro er w1 ⟨n, rfl, hn, G⟩
  have hz := hn
  unfold InU at hz
  have fin : ∀ k : Int, k = unz n → ∃ k' : Int, Ending.returned (.int .i64 k) = .returned (.int .i64 k') ∧ In64 k' ∧ GK B K v l w w1 (p, e) (skU l) (ei k') := fun k hk => by
    subst hk
    refine ⟨unz n, rfl, unz_in n hn, ?_⟩
    unfold ei
    rw [zig_unz n hn]
    exact G
  have FIN : Aside _ := fin
  clear G fin kU hn
  by_cases ho : n % 2 = 0
  · have hoz : (n : Int) % 2 = 0 := by omega
    have HZ : Hid _ := And.intro hz ho
    clear ho hz
    go_wp2_with fail
    go_ret
    refine FIN.out _ ?_
    unfold unz
    rw [if_neg (by have := HZ.out.2; omega)]
    have hq := HZ.out.1
    have hu : IntKind.u64.wrap ((n : Int) / 2) = (n : Int) / 2 := by rw [IntKind.wrap_u64]; omega
    rw [hu]
    simp only [← IntWalk.i64_left, IntKind.wrap_i64]
    omega
  · have hoz : ¬ (n : Int) % 2 = 0 := by omega
    have HZ : Hid _ := And.intro hz ho
    clear ho hz
    go_wp2_with fail
    go_ret
    refine FIN.out _ ?_
    unfold unz
    rw [if_pos (by have := HZ.out.2; omega)]
    have hq := HZ.out.1
    have hu : IntKind.u64.wrap ((n : Int) / 2) = (n : Int) / 2 := by rw [IntKind.wrap_u64]; omega
    rw [hu]
    simp only [← IntWalk.i64_left, IntKind.wrap_i64]
    omega
theorem kwhole (B K : Nat) (v : Value) (l : Bs) (w : World) (p e : Nat) (h : RP B K v l w p e) :
    Calls Try.prog 58 #[.pointer (some ⟨K, 0, none⟩)] w fun er w' => ∃ k : Int, er = .returned (.int .i64 k) ∧ In64 k ∧ GK B K v l w w' (p, e) (skU l) (ei k) := by
  have kU := kint B K v l w p e h
  clear h
  go_enter Try.func58, Try.ntmps58
  go_wp2_with fail
  refine kU.mono ?_
  rintro er w1 ⟨k, rfl, hk, G⟩
  go_wp2_with fail
  go_ret
  exact ⟨k, rfl, hk, G⟩
theorem ktext (B K : Nat) (v : Value) (l : Bs) (w : World) (p e : Nat) (hlb : l.length ≤ 1048576) (h : RP B K v l w p e) :
    Calls Try.prog 109 #[.pointer (some ⟨K, 0, none⟩)] w fun er w' => ∃ t : Fi.Str, er = .returned (.string ⟨t.toArray⟩) ∧ t.length ≤ 1048576 ∧ GK B K v l w w' (p, e) (skT l) (et t) := by
  refine (text_k w K v l p e h.ks h.all h.le (Nat.le_trans hlb (by decide))).mono ?_
  rintro er w' ⟨rfl, h1, g1⟩
  refine ⟨_, rfl, ?_, h.go h1 g1 ((fwd_t l).le (p, e) h.le).2, g1, fun h0 h2 => text_bytes l (p, e) h.le h0 h2⟩
  unfold tS
  split
  · exact Nat.zero_le _
  · exact Nat.le_trans (List.length_take_le _ _) (Nat.le_trans (c_le l p e h.le) hlb)
end Go.Proofs.Ytpdlioidiobbbaa
