/- The law's book: a call is noted, whatever it is. -/
import Derived.Test.YtdcoeebpknipdaaNtE
import Derived.Test.YtdcoeebpknipdaaOpIn
namespace Go.Proofs.Ytdcoeebpknipdaa
open Go.RowKit Go.Maps Go.Sort

theorem Dk.more {w : World} {d N M : Nat} {F : Nat → Prop} {s : St} (h : Dk w d F N s) (hm : N ≤ M) : Dk w d F M s := by
  obtain ⟨mo, Z, z⟩ := h
  exact ⟨mo, Z, z.b, z.f, z.m, z.fm, z.e, z.ap, z.fs, fun x hx => Nat.le_trans (z.n x hx) hm, z.nm, z.few, z.ops, z.lt⟩
theorem Dk.len {w : World} {d N : Nat} {F : Nat → Prop} {s : St} (h : Dk w d F N s) : ∀ f ∈ s.fs, f.bs.length ≤ N := by
  obtain ⟨mo, Z, z⟩ := h
  intro f hf
  rw [← z.fs] at hf
  obtain ⟨x, hx, rfl⟩ := List.mem_map.1 hf
  exact z.n x hx
theorem Dk.sync {w : World} {d N : Nat} {F : Nat → Prop} {s : St} (h : Dk w d F N s) : ∀ f ∈ s.fs, f.sy ≤ f.bs.length := by
  obtain ⟨mo, Z, z⟩ := h
  intro f hf
  rw [← z.fs] at hf
  obtain ⟨x, hx, rfl⟩ := List.mem_map.1 hf
  exact (z.e x hx).le
theorem Nt.more {w w' : World} {b d N M : Nat} {G F : Nat → Prop} {s : St} {E : List Fl} (h : Nt w w' b d G F N s E) (hm : N ≤ M) : Nt w w' b d G F M s E := by
  obtain ⟨⟨G', F', h1, h2, h3⟩, h4⟩ := h
  exact ⟨⟨G', F', h1, h2.more hm, h3⟩, h4⟩
theorem note_ok {k : Nat} {nm t b : Str} {E : List Fl} {s : St} {z : Int} (hp : E.Perm s.fs) (hm : Nms s.fs) (ho : s.off = false) (hn : isNm nm = true) (ht : isNm t = true) (hi : At1 E nm z) :
    (k < 3 → decide ((nS k nm t b s).1 = 0) = !(cnt k nm s && hit s)) ∧ (¬ k < 3 → (decide ((nS k nm t b s).1 = 0) == decide (0 ≤ z)) = !(cnt k nm s && hit s)) := by
  have hz := hi.has
  rw [hasF_perm hp] at hz
  have hl : s.fs.length < 1000 := by have := hm.few; omega
  cases hc : cnt k nm s with
  | false =>
    rw [nS_none ho hn ht hc]
    unfold cnt at hc
    rw [Bool.or_eq_false_iff, decide_eq_false_iff_not] at hc
    refine ⟨fun h => absurd h hc.1, fun _ => ?_⟩
    rw [← hz, hc.2]
    rfl
  | true =>
    cases hh : hit s with
    | false =>
      rw [nS_miss ho hn ht hl hc hh]
      refine ⟨fun _ => rfl, fun h => ?_⟩
      unfold cnt at hc
      rw [decide_eq_false h, Bool.false_or] at hc
      rw [← hz, hc]
      rfl
    | true =>
      rw [(nS_hit (b := b) ho hn ht hl hc hh).1]
      refine ⟨fun _ => rfl, fun h => ?_⟩
      unfold cnt at hc
      rw [decide_eq_false h, Bool.false_or] at hc
      rw [← hz, hc]
      rfl
theorem note_perm {k : Nat} {nm t b : Str} {E : List Fl} {s : St} {z j : Int} (hp : E.Perm s.fs) (hm : Nms s.fs) (ho : s.off = false) (hn : isNm nm = true) (ht : isNm t = true) (hi : At1 E nm z) (hj : At1 E t j) (hch : (cnt k nm s && hit s) = false) : (bkE k nm t b E z j).Perm (nS k nm t b s).2.fs := by
  have hz := hi.has
  rw [hasF_perm hp] at hz
  have hl : s.fs.length < 1000 := by have := hm.few; omega
  cases hc : cnt k nm s with
  | false =>
    rw [nS_none ho hn ht hc]
    unfold cnt at hc
    rw [Bool.or_eq_false_iff, decide_eq_false_iff_not] at hc
    rw [hc.2] at hz
    have hz0 : ¬ 0 ≤ z := of_decide_eq_false hz.symm
    have e0 : bkE k nm t b E z j = E := by
      unfold bkE
      rw [if_neg hc.1]
      by_cases h4 : k = 3
      · rw [if_pos h4, if_neg hz0]
      · rw [if_neg h4]
        by_cases h5 : k = 4
        · rw [if_pos h5, if_neg hz0]
        · rw [if_neg h5, if_neg (fun h => hz0 h.1)]
    rw [e0]
    exact hp
  | true =>
    rw [hc, Bool.true_and] at hch
    rw [nS_miss ho hn ht hl hc hch]
    refine (bkE_perm (hm.nd.perm hp.symm) hi hj ?_).trans (nF_perm hp k nm t b)
    unfold cnt at hc
    rw [hz, Bool.or_eq_true, decide_eq_true_eq, decide_eq_true_eq] at hc
    exact hc
/-- What a note answers, and what it leaves. -/
structure Note (w w' : World) (b d : Nat) (G F : Nat → Prop) (N : Nat) (k : Nat) (nm t bs : Str) (s : St) : Prop where
  ex : ∃ E', Nt w w' b d G F (N + bs.length) (nS k nm t bs s).2 E' ∧ ((cnt k nm s && hit s) = false → E'.Perm (nS k nm t bs s).2.fs)
set_option maxRecDepth 100000 in
theorem note_any (w : World) (b d N : Nat) (G F : Nat → Prop) (E : List Fl) (s : St) (K M : Int) (A B : Str) (u : Value) (bs : Str) (hK1 : -9223372036854775808 ≤ K) (hK2 : K ≤ 9223372036854775807) (hA : A.length ≤ 1048576) (hBl : B.length ≤ 1048576) (hB : Bk w b G E) (hD : Dk w d F N s) (hap : ∀ i, G i → ¬ F i) (hop : s.ops < 1000000) (hu : ∀ w', Fr (fun i => G i ∨ F i) w w' → Reads w' u bs) (hN : N + bs.length ≤ 140737488355328) (hp : E.Perm s.fs) (hm : Nms s.fs) (ho : s.off = false) :
    Calls Try.prog 16 #[.pointer (some ⟨b, 0, none⟩), .pointer (some ⟨d, 0, none⟩), .agg #[.int .i64 K, .string ⟨A.toArray⟩, .string ⟨B.toArray⟩, u, .int .i64 M]] w fun e w' => e = .returned (.bool (!(cnt (absN K % 6) (nmK A.length) s && hit s))) ∧ Note w w' b d G F N (absN K % 6) (nmK A.length) (nmK B.length) bs s := by
  have hA' : A.length ≤ maxLen := by unfold maxLen; omega
  have hB' : B.length ≤ maxLen := by unfold maxLen; omega
  have hn := (nmK_facts A.length).1
  have ht := (nmK_facts B.length).1
  have hmE := hm.perm hp.symm
  have hfew := hmE.few
  have hk6 : absN K % 6 < 6 := Nat.mod_lt _ (by decide)
  obtain ⟨k, hk⟩ : ∃ k, k = absN K % 6 := ⟨_, rfl⟩
  rw [← hk]
  rw [← hk] at hk6
  by_cases h3 : k < 3
  · refine (note_app w b d N G F E s K M A B u hK1 hK2 bs (by omega) hA' hB hD hap hop hu (fun f hf => hD.len f (hp.mem_iff.1 hf)) hN (by omega)).mono ?_
    rintro e w' ⟨z, hz, rfl, h⟩
    obtain ⟨j, hj⟩ := at1_ex E (nmK B.length)
    have e1 : nS k (nmK A.length) (nmK B.length) bs s = s.append (nmK A.length) bs := by unfold nS; rw [if_pos h3]
    have q1 := (note_ok (k := k) (b := bs) hp hm ho hn ht hz).1 h3
    have q2 := note_perm (k := k) (b := bs) hp hm ho hn ht hz hj
    rw [e1] at q1 q2
    refine ⟨by rw [q1], ⟨_, by rw [e1]; exact h, fun hc => ?_⟩⟩
    have := q2 hc
    unfold bkE at this
    rw [if_pos h3] at this
    rw [e1]
    exact this
  · by_cases h4 : k = 3
    · refine (note_syn w b d N G F E s K M A B u hK1 hK2 (by omega) hA' hB hD hap hop).mono ?_
      rintro e w' ⟨z, hz, rfl, h⟩
      obtain ⟨j, hj⟩ := at1_ex E (nmK B.length)
      have e1 : nS k (nmK A.length) (nmK B.length) bs s = s.sync (nmK A.length) := by unfold nS; rw [if_neg h3, if_pos h4]
      have q1 := (note_ok (k := k) (b := bs) hp hm ho hn ht hz).2 h3
      have q2 := note_perm (k := k) (b := bs) hp hm ho hn ht hz hj
      rw [e1] at q1 q2
      refine ⟨by rw [q1], ⟨_, by rw [e1]; exact h.more (by omega), fun hc => ?_⟩⟩
      have := q2 hc
      unfold bkE at this
      rw [if_neg h3, if_pos h4] at this
      rw [e1]
      exact this
    · by_cases h5 : k = 4
      · refine (note_rem w b d N G F E s K M A B u hK1 hK2 (by omega) hA' hB hD hap hop).mono ?_
        rintro e w' ⟨z, hz, rfl, h⟩
        obtain ⟨j, hj⟩ := at1_ex E (nmK B.length)
        have e1 : nS k (nmK A.length) (nmK B.length) bs s = s.remove (nmK A.length) := by unfold nS; rw [if_neg h3, if_neg h4, if_pos h5]
        have q1 := (note_ok (k := k) (b := bs) hp hm ho hn ht hz).2 h3
        have q2 := note_perm (k := k) (b := bs) hp hm ho hn ht hz hj
        rw [e1] at q1 q2
        refine ⟨by rw [q1], ⟨_, by rw [e1]; exact h.more (by omega), fun hc => ?_⟩⟩
        have := q2 hc
        unfold bkE at this
        rw [if_neg h3, if_neg h4, if_pos h5] at this
        rw [e1]
        exact this
      · refine (note_ren w b d N G F E s K M A B u hK1 hK2 (by omega) hA' hB' hB hD hap hop).mono ?_
        rintro e w' ⟨z, j, hz, hj, rfl, h⟩
        have e1 : nS k (nmK A.length) (nmK B.length) bs s = s.rename (nmK A.length) (nmK B.length) := by unfold nS; rw [if_neg h3, if_neg h4, if_neg h5]
        have q1 := (note_ok (k := k) (b := bs) hp hm ho hn ht hz).2 h3
        have q2 := note_perm (k := k) (b := bs) hp hm ho hn ht hz hj
        rw [e1] at q1 q2
        refine ⟨by rw [q1], ⟨_, by rw [e1]; exact h.more (by omega), fun hc => ?_⟩⟩
        have := q2 hc
        unfold bkE at this
        rw [if_neg h3, if_neg h4, if_neg h5] at this
        rw [e1]
        exact this
end Go.Proofs.Ytdcoeebpknipdaa
