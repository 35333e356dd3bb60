/- Contracts of the readers' Count, the program's and the reference's. -/
import Derived.Test.YtpdlioidiobbbaaRdAll
import Derived.WalkLawsBesides

namespace Go.Proofs.Ytpdlioidiobbbaa
open Go.RowKit

/-- How many things of at least so many bytes so many bytes can hold. -/
def lim (L : Nat) (least : Int) : Nat := if least < 1 then L else L / least.toNat
/-- What Count answers, where the reader is then, and its first error. -/
def cS (l : List UInt8) (p e : Nat) (least : Int) : Nat × Nat × Nat :=
  if (Rd.uS l p e).2.2 = 0 ∧ lim (lf l (Rd.uS l p e).2.1 0) least < (Rd.uS l p e).1 then (0, (Rd.uS l p e).2.1, 10) else Rd.uS l p e
theorem uS_err0 (l : List UInt8) (p e : Nat) (h : (Rd.uS l p e).2.2 ≠ 0) : (Rd.uS l p e).1 = 0 := by
  unfold Rd.uS at h ⊢
  split
  · rfl
  · rename_i he
    rw [if_neg he] at h
    simp only at h ⊢
    split
    · rename_i h0
      rw [if_pos h0] at h
      exact absurd rfl h
    · rfl
theorem lim_le (L : Nat) (least : Int) : lim L least ≤ L := by
  unfold lim; split
  · exact Nat.le_refl _
  · exact Nat.div_le_self _ _
theorem lf_zero (l : List UInt8) (p e : Nat) (h : e ≠ 0) : lf l p e = 0 := by unfold lf; rw [if_neg h]

set_option maxHeartbeats 800000 in
theorem count_p (B : Nat) (w : World) (R : Nat) (l : List UInt8) (p e : Nat) (least : Int) (h : PS B w R l p e) (hl1 : -9223372036854775808 ≤ least) (hl2 : least ≤ 9223372036854775807) (hlb : l.length ≤ 2 ^ 63 - 1) :
    Calls Try.prog 106 #[.pointer (some ⟨R, 0, none⟩), .int .i64 least] w fun er w' => er = .returned (.int .i64 (cS l p e least).1) ∧ PS B w' R l (cS l p e least).2.1 (cS l p e least).2.2 ∧ w.grownBy w' (some R) := by
  have hlt := Rd.uS_lt l p e
  have h0 := uS_err0 l p e
  have hcs : cS l p e least = if (Rd.uS l p e).2.2 = 0 ∧ lim (lf l (Rd.uS l p e).2.1 0) least < (Rd.uS l p e).1 then (0, (Rd.uS l p e).2.1, 10) else Rd.uS l p e := rfl
  go_enter Try.func106, Try.ntmps106
  go_wp2_with fail
  refine (uint_p B w R l p e h).mono ?_
  rintro er w1 ⟨rfl, h1, g1⟩
  obtain ⟨⟨n, p1, e1⟩, hx⟩ : ∃ x, Rd.uS l p e = x := ⟨_, rfl⟩
  rw [hx] at hlt h0 hcs h1 ⊢
  simp only at hlt h0 hcs h1 ⊢
  have HCS := hide hcs
  clear hx hcs h
  go_wp2_with fail
  refine (left_p B w1 R l p1 e1 h1).mono ?_
  rintro er w2 ⟨rfl, hw2⟩
  subst hw2
  have hL : lf l p1 e1 ≤ 2 ^ 63 - 1 := by unfold lf; split <;> omega
  have hLe := lf_zero l p1 e1
  have hL0 : e1 = 0 → lf l p1 0 = lf l p1 e1 := fun h => by rw [h]
  have hlim := lim_le (lf l p1 e1) least
  obtain ⟨a, c, hh, _⟩ := id h1.shape
  have HH := hide hh
  have hB := h1.1
  have hp1 := h1.2.1
  clear hh
  have hdec : (lim (lf l p1 e1) least < n → e1 = 0 ∧ cS l p e least = (0, p1, 10)) ∧ (¬ lim (lf l p1 e1) least < n → cS l p e least = (n, p1, e1)) := by
    rw [unhide HCS]
    constructor
    · intro hq
      have he : e1 = 0 := by
        by_cases he : e1 = 0
        · exact he
        · have := h0 he; omega
      rw [hL0 he, if_pos ⟨he, hq⟩]
      exact ⟨he, rfl⟩
    · intro hq
      rw [if_neg]
      rintro ⟨he, hq'⟩
      rw [hL0 he] at hq'
      exact hq hq'
  have HDEC := hide hdec
  clear hdec HCS hLe hL0 h0
  generalize hLL : lf l p1 e1 = L at *
  have HLL := hide hLL
  clear hLL
  by_cases hl : least < 1
  · have hlm : lim L least = L := by unfold lim; rw [if_pos hl]
    rw [hlm] at HDEC hlim
    clear hlm
    by_cases hq : L < n
    · have hq' : (L : Int) < (n : Int) := by omega
      go_wp2_with fail
      refine (fail_any w2 R _ _ _ (unhide HH)).mono ?_
      rintro er w3 ⟨rfl, g3, gr3⟩
      obtain ⟨he, hcc⟩ := (unhide HDEC).1 hq
      go_wp2
      go_ret
      rw [hcc]
      subst he
      exact ⟨rfl, ⟨hB, hp1, _, g3, ReadsB.nil _ _, fun _ => rfl⟩, grown_trans' g1 gr3⟩
    · have hq' : ¬ (L : Int) < (n : Int) := by omega
      have hcc := hide ((unhide HDEC).2 hq)
      go_wp2
      go_ret
      rw [unhide hcc]
      exact ⟨rfl, h1, g1⟩
  · obtain ⟨d, rfl⟩ : ∃ d : Nat, least = (d : Int) := ⟨least.toNat, by omega⟩
    have hlm : lim L (d : Int) = L / d := by unfold lim; rw [if_neg hl, Int.toNat_natCast]
    rw [hlm] at HDEC hlim
    clear hlm
    have hd1 : (1 : Int) ≤ (d : Int) := by omega
    obtain ⟨q, hdc, hqd⟩ : ∃ q : Nat, (L : Int) / (d : Int) = (q : Int) ∧ L / d = q := ⟨L / d, by simp, rfl⟩
    rw [hqd] at HDEC hlim
    clear hqd
    by_cases hq : q < n
    · have hq' : (q : Int) < (n : Int) := by omega
      go_wp2_with fail
      refine (fail_any w2 R _ _ _ (unhide HH)).mono ?_
      rintro er w3 ⟨rfl, g3, gr3⟩
      obtain ⟨he, hcc⟩ := (unhide HDEC).1 hq
      go_wp2
      go_ret
      rw [hcc]
      subst he
      exact ⟨rfl, ⟨hB, hp1, _, g3, ReadsB.nil _ _, fun _ => rfl⟩, grown_trans' g1 gr3⟩
    · have hq' : ¬ (q : Int) < (n : Int) := by omega
      have hcc := hide ((unhide HDEC).2 hq)
      go_wp2
      go_ret
      rw [unhide hcc]
      exact ⟨rfl, h1, g1⟩

set_option maxHeartbeats 800000 in
theorem count_k (w : World) (K : Nat) (v : Value) (l : List UInt8) (p e : Nat) (least : Int) (h : KS w K v p e) (hK : ∀ w', w.grownBy w' (some K) → Reads w' v l) (hp : p ≤ l.length) (hl1 : -9223372036854775808 ≤ least) (hl2 : least ≤ 9223372036854775807) (hlb : l.length ≤ 2 ^ 63 - 1) :
    Calls Try.prog 62 #[.pointer (some ⟨K, 0, none⟩), .int .i64 least] w fun er w' => er = .returned (.int .i64 (cS l p e least).1) ∧ KS w' K v (cS l p e least).2.1 (cS l p e least).2.2 ∧ w.grownBy w' (some K) := by
  have hlt := Rd.uS_lt l p e
  have hle := Rd.uS_le l p e hp
  have h0 := uS_err0 l p e
  have hcs : cS l p e least = if (Rd.uS l p e).2.2 = 0 ∧ lim (lf l (Rd.uS l p e).2.1 0) least < (Rd.uS l p e).1 then (0, (Rd.uS l p e).2.1, 10) else Rd.uS l p e := rfl
  go_enter Try.func62, Try.ntmps62
  go_wp2_with fail
  refine (refrd_any w K v l p e h (hK w (World.grownBy.refl _ _)) hp).mono ?_
  rintro er w1 ⟨rfl, h1, g1⟩
  obtain ⟨⟨n, p1, e1⟩, hx⟩ : ∃ x, Rd.uS l p e = x := ⟨_, rfl⟩
  rw [hx] at hlt h0 hcs h1 hle ⊢
  simp only at hlt h0 hcs h1 hle ⊢
  have hr1 := hK w1 g1
  have HCS := hide hcs
  have HH := hide h1
  have HRD := hide hr1
  obtain ⟨c0, c1, c2, f⟩ := h1.cells
  have f2 := f 2
  clear hx hcs h h1 hr1 hK f
  have hLb : lf l p1 0 ≤ 2 ^ 63 - 1 := by unfold lf; split <;> omega
  by_cases he : e1 = 0
  · subst he
    have heb : (((0 : Nat) : Int) == 0) = true := rfl
    have hdec : (lim (lf l p1 0) least < n → cS l p e least = (0, p1, 10)) ∧ (¬ lim (lf l p1 0) least < n → cS l p e least = (n, p1, 0)) := by
      rw [unhide HCS]
      exact ⟨fun hq => if_pos ⟨rfl, hq⟩, fun hq => if_neg (fun hh => hq hh.2)⟩
    have HDEC := hide hdec
    have hlim := lim_le (lf l p1 0) least
    have HLK := hide (fun u1 => left_k u1 K v l p1 0)
    clear hdec HCS h0
    generalize hLL : lf l p1 0 = L at *
    have HLL := hide hLL
    clear hLL
    by_cases hl : least < 1
    · have hlm : lim L least = L := by unfold lim; rw [if_pos hl]
      rw [hlm] at HDEC hlim
      clear hlm
      by_cases hq : L < n
      · have hq' : (L : Int) < (n : Int) := by omega
        have hcc := hide ((unhide HDEC).1 hq)
        go_wp2_with fail
        refine (unhide HLK _ (unhide HH) (unhide HRD) hle).mono ?_
        rintro er w2 ⟨rfl, m, hw2⟩
        subst hw2
        go_wp2
        go_ret
        rw [unhide hcc]
        exact ⟨rfl, ks_bad (w := w1.drewN m) (d := 10) (unhide HH) rfl, grown_trans' (grown_trans' g1 (grown_drewN _ _ _)) grown_setCell⟩
      · have hq' : ¬ (L : Int) < (n : Int) := by omega
        have hcc := hide ((unhide HDEC).2 hq)
        go_wp2_with fail
        refine (unhide HLK _ (unhide HH) (unhide HRD) hle).mono ?_
        rintro er w2 ⟨rfl, m, hw2⟩
        subst hw2
        go_wp2
        go_ret
        rw [unhide hcc]
        exact ⟨rfl, unhide HH, grown_trans' g1 (grown_drewN _ _ _)⟩
    · obtain ⟨d, rfl⟩ : ∃ d : Nat, least = (d : Int) := ⟨least.toNat, by omega⟩
      have hlm : lim L (d : Int) = L / d := by unfold lim; rw [if_neg hl, Int.toNat_natCast]
      rw [hlm] at HDEC hlim
      clear hlm
      have hd1 : (1 : Int) ≤ (d : Int) := by omega
      obtain ⟨q, hdc, hqd⟩ : ∃ q : Nat, (L : Int) / (d : Int) = (q : Int) ∧ L / d = q := ⟨L / d, by simp, rfl⟩
      rw [hqd] at HDEC hlim
      clear hqd
      by_cases hq : q < n
      · have hq' : (q : Int) < (n : Int) := by omega
        have hcc := hide ((unhide HDEC).1 hq)
        go_wp2_with fail
        refine (unhide HLK _ (unhide HH) (unhide HRD) hle).mono ?_
        rintro er w2 ⟨rfl, m, hw2⟩
        subst hw2
        go_wp2
        go_ret
        rw [unhide hcc]
        exact ⟨rfl, ks_bad (w := w1.drewN m) (d := 10) (unhide HH) rfl, grown_trans' (grown_trans' g1 (grown_drewN _ _ _)) grown_setCell⟩
      · have hq' : ¬ (q : Int) < (n : Int) := by omega
        have hcc := hide ((unhide HDEC).2 hq)
        go_wp2_with fail
        refine (unhide HLK _ (unhide HH) (unhide HRD) hle).mono ?_
        rintro er w2 ⟨rfl, m, hw2⟩
        subst hw2
        go_wp2
        go_ret
        rw [unhide hcc]
        exact ⟨rfl, unhide HH, grown_trans' g1 (grown_drewN _ _ _)⟩
  · have heb : ((e1 : Int) == 0) = false := by rw [beq_eq_false_iff_ne]; omega
    have hcc := hide (show cS l p e least = (n, p1, e1) by rw [unhide HCS, if_neg (fun hh => he hh.1)])
    have hn0 : n = 0 := h0 he
    have HN0 := hide hn0
    have hnb : (n : Int) ≤ 5 := by omega
    clear HCS h0 hn0
    by_cases hl : least < 1
    · go_wp2
      go_ret
      rw [unhide hcc]
      exact ⟨rfl, unhide HH, g1⟩
    · have hl' : ¬ least < 1 := hl
      go_wp2
      go_ret
      rw [unhide hcc]
      exact ⟨rfl, unhide HH, g1⟩
end Go.Proofs.Ytpdlioidiobbbaa
