/- What the reference's Parse does, and that it answers what the program's does. No walk stands here. -/
import Derived.Test.YtfhldldcfdimhaaPrs
namespace Go.Proofs.Ytfhldldcfdimhaa
open Go.RowKit Go.Shelf Go.Sort

theorem uv_pos' (n : Nat) : 1 ≤ (Num.uv n).length := by
  unfold Num.uv
  by_cases h : n < 128
  · rw [Num.uvF_small 9 n h]; simp
  · rw [Num.uvF_great 8 n (by omega)]; simp
theorem pcs_least' (ts : List Str) : ∀ k, 2 * k ≤ (pcs ts k).length
  | 0 => by simp
  | k + 1 => by
    have := pcs_least' ts k
    rw [pcs_succ, List.length_append]
    unfold piece
    have h1 := uv_pos' (cpl (prv ts k) (ts.getD k []))
    have h2 := uv_pos' ((ts.getD k []).length - cpl (prv ts k) (ts.getD k []))
    simp only [List.length_append]
    omega
theorem fnl_back' {ts : List Str} (hr : Ris ts) (hf : ∀ t ∈ ts, t.length ≤ 64) (hl : ts.length ≤ 4096) : fnl (byts ts) = ((byts ts).length, 0, some ts) := by
  have h1 := Rd.uS_write (byts ts) (pcs ts ts.length) 0 ts.length (by rw [List.drop_zero]; rfl) (by omega)
  have hp := pcs_least' ts ts.length
  have hc : cS (byts ts) 0 0 2 = (ts.length, (Num.uv ts.length).length, 0) := by
    unfold cS
    rw [h1, Nat.zero_add, if_neg]
    rintro ⟨_, hx⟩
    simp only [lim, lf] at hx
    rw [if_neg (by omega)] at hx
    have e : (byts ts).length = (Num.uv ts.length).length + (pcs ts ts.length).length := by unfold byts; simp
    simp only [if_true, e] at hx
    have e2 : (Num.uv ts.length).length + (pcs ts ts.length).length - (Num.uv ts.length).length = (pcs ts ts.length).length := by omega
    rw [e2, show ((2 : Int)).toNat = 2 from rfl] at hx
    omega
  have hb := rnd_back hr hf ts.length (Nat.le_refl _)
  unfold fnl ini
  rw [hc]
  simp only
  rw [if_pos hl, hb, List.take_length]
  rfl
/-- What the reference makes of one text more. -/
def rad1 (was : Str) (k : Nat) (s : Str) : Str := was.take (if was.length < k then 0 else k) ++ s
def rad (was : Str) (k : Nat) (s : Str) : Str := if 64 < (rad1 was k s).length then [] else rad1 was k s
def radB (was : Str) (i k : Nat) (s : Str) : Bool := decide (k ≤ was.length) && (decide ((rad1 was k s).length ≤ 64) && decide (0 < i → was < rad was k s))
/-- One round: where the reader is, its first error, the texts so far, whether all is fine. -/
def rstp (l : List UInt8) (x : Nat × Nat × List Str × Bool) : Nat × Nat × List Str × Bool :=
  let u := Rd.uS l x.1 x.2.1
  let t := tS l u.2.1 u.2.2
  (t.2.1, t.2.2, x.2.2.1 ++ [rad (prv x.2.2.1 x.2.2.1.length) u.1 t.1], x.2.2.2 && radB (prv x.2.2.1 x.2.2.1.length) x.2.2.1.length u.1 t.1)
def rrn (l : List UInt8) (x : Nat × Nat × List Str × Bool) : Nat → Nat × Nat × List Str × Bool
  | 0 => x
  | k + 1 => rstp l (rrn l x k)
def rini (l : List UInt8) : Nat × Nat × List Str × Bool := ((cS l 0 0 2).2.1, (cS l 0 0 2).2.2, [], true)
theorem same_pos (l : List UInt8) : ∀ k, (rnd l (ini l) k).1 = (rrn l (rini l) k).1 ∧ (rnd l (ini l) k).2.1 = (rrn l (rini l) k).2.1
  | 0 => ⟨rfl, rfl⟩
  | k + 1 => by
    obtain ⟨h1, h2⟩ := same_pos l k
    rw [rnd, rrn]
    unfold stp rstp
    simp only [h1, h2, and_self]
theorem rrn_len (l : List UInt8) : ∀ k, (rrn l (rini l) k).2.2.1.length = k
  | 0 => rfl
  | k + 1 => by rw [rrn]; unfold rstp; simp [rrn_len l k]
theorem uS_stick (l : List UInt8) (p e : Nat) (h : e ≠ 0) : Rd.uS l p e = (0, p, e) := by unfold Rd.uS; rw [if_pos h]
theorem tS_stick (l : List UInt8) (p e : Nat) (h : e ≠ 0) : tS l p e = ([], p, e) := by
  have : cS l p e 1 = (0, p, e) := by unfold cS; rw [uS_stick l p e h, if_neg (fun hh => h hh.1)]
  unfold tS
  rw [this, if_pos h]
theorem stp_stick (l : List UInt8) (x : Nat × Nat × Option (List Str)) (h : x.2.1 ≠ 0) : (stp l x).2.1 = x.2.1 := by
  unfold stp
  simp only [uS_stick l x.1 x.2.1 h, tS_stick l x.1 x.2.1 h]
theorem rnd_stick (l : List UInt8) (i : Nat) (h : (rnd l (ini l) i).2.1 ≠ 0) : ∀ k, i ≤ k → (rnd l (ini l) k).2.1 = (rnd l (ini l) i).2.1
  | 0, hk => by rw [show i = 0 by omega]
  | k + 1, hk => by
    rcases Nat.lt_or_eq_of_le hk with hk | rfl
    · have ih := rnd_stick l i h k (by omega)
      rw [rnd, stp_stick l _ (by rw [ih]; exact h), ih]
    · rfl
/-- Wherever the reference stops, the reader's error is the program's. -/
theorem en_same (l : List UInt8) (i : Nat) (hi : i ≤ (cS l 0 0 2).1) (h : i = (cS l 0 0 2).1 ∨ (rrn l (rini l) i).2.1 ≠ 0) :
    en l (rrn l (rini l) i).1 (rrn l (rini l) i).2.1 = en l (fnl l).1 (fnl l).2.1 := by
  obtain ⟨h1, h2⟩ := same_pos l i
  rcases h with rfl | h
  · unfold fnl; rw [h1, h2]
  · have h3 := rnd_stick l i (by rw [h2]; exact h) _ hi
    have e1 : ∀ p e, e ≠ 0 → en l p e = e := fun p e he => by unfold en; rw [if_pos he]
    rw [e1 _ _ h]
    unfold fnl
    rw [e1 _ _ (by rw [h3, h2]; exact h), h3, h2]
theorem tS_canon (l : List UInt8) (p p' : Nat) (s : Str) (h : tS l p 0 = (s, p', 0)) : l.drop p = Num.uv s.length ++ (s ++ l.drop p') := by
  unfold tS at h
  by_cases he : (cS l p 0 1).2.2 = 0
  · rw [if_neg (fun hh => hh he)] at h
    have hc : cS l p 0 1 = Rd.uS l p 0 := by
      unfold cS at he ⊢
      split
      · rename_i hh; rw [if_pos hh] at he; cases he
      · rfl
    have hlim : (cS l p 0 1).1 ≤ l.length - (cS l p 0 1).2.1 := by
      have h5 := he
      unfold cS at h5
      split at h5
      · cases h5
      · rename_i hh
        rw [hc]
        rw [hc] at he
        have h6 : ¬ lim (lf l (Rd.uS l p 0).2.1 0) 1 < (Rd.uS l p 0).1 := fun hx => hh ⟨he, hx⟩
        have h7 : lim (lf l (Rd.uS l p 0).2.1 0) 1 = l.length - (Rd.uS l p 0).2.1 := by
          unfold lim lf; rw [if_neg (by omega), if_pos rfl]; simp
        omega
    obtain ⟨n, q, e, hx⟩ : ∃ n q e, Rd.uS l p 0 = (n, q, e) := ⟨_, _, _, rfl⟩
    rw [hc, hx] at h he hlim
    simp only at h he hlim
    subst he
    obtain ⟨_, _, h3⟩ := Rd.uS_canon l p n q hx
    simp only [Prod.mk.injEq, and_true] at h
    obtain ⟨h1, h2⟩ := h
    have hsl : s.length = n := by rw [← h1]; simp; omega
    rw [h3, hsl, ← h1, ← h2, ← List.drop_drop, List.take_append_drop]
  · rw [if_pos he] at h
    exact absurd (Prod.mk.inj (Prod.mk.inj h).2).2 he
theorem prv_app (ts : List Str) (t : Str) (j : Nat) (h : j ≤ ts.length) : prv (ts ++ [t]) j = prv ts j := by
  cases j with
  | zero => rfl
  | succ i => simp [prv, List.getD, List.getElem?_append_left (show i < ts.length by omega)]
theorem pcs_app (ts : List Str) (t : Str) : ∀ k, k ≤ ts.length → pcs (ts ++ [t]) k = pcs ts k
  | 0, _ => rfl
  | k + 1, h => by
    rw [pcs_succ, pcs_succ, pcs_app ts t k (by omega), prv_app ts t k (by omega)]
    congr 2
    simp [List.getD, List.getElem?_append_left (show k < ts.length by omega)]
theorem drop_pre (a s : Str) (c : Nat) (h : c ≤ a.length) : (a.take c ++ s).drop c = s := by
  have e : (a.take c).length = c := by simp; omega
  have := List.drop_left (l₁ := a.take c) (l₂ := s)
  rw [e] at this; exact this
/-- What is read without an error, and taken, is the form that is written. -/
theorem canon (l : List UInt8) (h0 : (cS l 0 0 2).2.2 = 0) : ∀ k ts, (rnd l (ini l) k).2.1 = 0 → (rnd l (ini l) k).2.2 = some ts →
    (rrn l (rini l) k).2.2 = (ts, true) ∧ l = (Num.uv (cS l 0 0 2).1 ++ pcs ts k) ++ l.drop (rnd l (ini l) k).1
  | 0, ts, _, h => by
    have hts : ts = [] := by
      have h' : (if (cS l 0 0 2).1 ≤ 4096 then some ([] : List Str) else none) = some ts := h
      split at h'
      · exact (Option.some.inj h').symm
      · cases h'
    subst hts
    refine ⟨rfl, ?_⟩
    have hc : cS l 0 0 2 = Rd.uS l 0 0 := by
      unfold cS at h0 ⊢
      split
      · rename_i hh; rw [if_pos hh] at h0; cases h0
      · rfl
    obtain ⟨n, q, e, hx⟩ : ∃ n q e, Rd.uS l 0 0 = (n, q, e) := ⟨_, _, _, rfl⟩
    have hq : (rnd l (ini l) 0).1 = q := by show (cS l 0 0 2).2.1 = q; rw [hc, hx]
    rw [hq, hc, hx]
    rw [hc, hx] at h0
    simp only at h0
    subst h0
    obtain ⟨_, _, h3⟩ := Rd.uS_canon l 0 n q hx
    rw [List.drop_zero] at h3
    have : pcs [] 0 = [] := rfl
    rw [this, List.append_nil]
    exact h3
  | k + 1, ts, he, h => by
    have he0 : (rnd l (ini l) k).2.1 = 0 := by
      by_cases hz : (rnd l (ini l) k).2.1 = 0
      · exact hz
      · rw [rnd, stp_stick l _ hz] at he; exact absurd he hz
    have e1 : (rnd l (ini l) (k + 1)).2.2 = (rnd l (ini l) k).2.2.bind fun ts => addS ts (Rd.uS l (rnd l (ini l) k).1 (rnd l (ini l) k).2.1).1 (tS l (Rd.uS l (rnd l (ini l) k).1 (rnd l (ini l) k).2.1).2.1 (Rd.uS l (rnd l (ini l) k).1 (rnd l (ini l) k).2.1).2.2).1 := rfl
    have e2 : (rnd l (ini l) (k + 1)).1 = (tS l (Rd.uS l (rnd l (ini l) k).1 (rnd l (ini l) k).2.1).2.1 (Rd.uS l (rnd l (ini l) k).1 (rnd l (ini l) k).2.1).2.2).2.1 := rfl
    have e3 : (rnd l (ini l) (k + 1)).2.1 = (tS l (Rd.uS l (rnd l (ini l) k).1 (rnd l (ini l) k).2.1).2.1 (Rd.uS l (rnd l (ini l) k).1 (rnd l (ini l) k).2.1).2.2).2.2 := rfl
    rw [e1, Option.bind_eq_some_iff] at h
    obtain ⟨ts0, g0, g1⟩ := h
    obtain ⟨i1, i2⟩ := canon l h0 k ts0 he0 g0
    obtain ⟨s1, s2⟩ := same_pos l k
    have hk : ts0.length = k := by
      have := rrn_len l k
      rw [i1] at this; exact this
    have e4 : (rrn l (rini l) (k + 1)).2.2 = ((rrn l (rini l) k).2.2.1 ++ [rad (prv (rrn l (rini l) k).2.2.1 (rrn l (rini l) k).2.2.1.length) (Rd.uS l (rrn l (rini l) k).1 (rrn l (rini l) k).2.1).1 (tS l (Rd.uS l (rrn l (rini l) k).1 (rrn l (rini l) k).2.1).2.1 (Rd.uS l (rrn l (rini l) k).1 (rrn l (rini l) k).2.1).2.2).1], (rrn l (rini l) k).2.2.2 && radB (prv (rrn l (rini l) k).2.2.1 (rrn l (rini l) k).2.2.1.length) (rrn l (rini l) k).2.2.1.length (Rd.uS l (rrn l (rini l) k).1 (rrn l (rini l) k).2.1).1 (tS l (Rd.uS l (rrn l (rini l) k).1 (rrn l (rini l) k).2.1).2.1 (Rd.uS l (rrn l (rini l) k).1 (rrn l (rini l) k).2.1).2.2).1) := rfl
    rw [← s1, ← s2, i1] at e4
    rw [e3] at he
    rw [e4, e2]
    rw [he0] at g1 he ⊢
    generalize (rnd l (ini l) k).1 = p at *
    obtain ⟨c, p1, ec, hu⟩ : ∃ c p1 ec, Rd.uS l p 0 = (c, p1, ec) := ⟨_, _, _, rfl⟩
    rw [hu] at g1 he ⊢
    simp only at g1 he ⊢
    have hec : ec = 0 := by
      by_cases hz : ec = 0
      · exact hz
      · rw [tS_stick l p1 ec hz] at he; exact absurd he hz
    subst hec
    obtain ⟨s, p2, es, ht⟩ : ∃ s p2 es, tS l p1 0 = (s, p2, es) := ⟨_, _, _, rfl⟩
    rw [ht] at g1 he ⊢
    simp only at g1 he ⊢
    subst he
    obtain ⟨_, _, d1⟩ := Rd.uS_canon l p c p1 hu
    have d2 := tS_canon l p1 p2 s ht
    unfold addS at g1
    simp only at g1
    split at g1
    · rename_i hc
      obtain ⟨c1, c2, c3, c4⟩ := hc
      have hts : ts = ts0 ++ [(prv ts0 ts0.length).take c ++ s] := (Option.some.inj g1).symm
      have hr1 : rad1 (prv ts0 ts0.length) c s = (prv ts0 ts0.length).take c ++ s := by unfold rad1; rw [if_neg (by omega)]
      have hr : rad (prv ts0 ts0.length) c s = (prv ts0 ts0.length).take c ++ s := by unfold rad; rw [hr1, if_neg (by omega)]
      refine ⟨?_, ?_⟩
      · rw [hr, ← hts]
        have : radB (prv ts0 ts0.length) ts0.length c s = true := by
          unfold radB
          rw [hr1, hr]
          simp only [Bool.and_eq_true, decide_eq_true_eq]
          refine ⟨c1, c3, fun h => ?_⟩
          rcases c2 with rfl | c2
          · cases h
          · exact c2
        rw [this]; rfl
      · have hg : ts.getD k [] = (prv ts0 ts0.length).take c ++ s := by rw [hts, ← hk]; simp [List.getD]
        have hpv : prv ts k = prv ts0 ts0.length := by rw [hts, ← hk]; exact prv_app _ _ _ (Nat.le_refl _)
        have hpc : pcs ts k = pcs ts0 k := by rw [hts]; exact pcs_app _ _ k (by omega)
        have hdr : ((prv ts0 ts0.length).take c ++ s).drop c = s := drop_pre _ _ _ c1
        have hln : ((prv ts0 ts0.length).take c ++ s).length - c = s.length := by simp; omega
        rw [pcs_succ, hpc, hpv, hg]
        unfold piece
        rw [c4, hdr, hln]
        rw [List.append_assoc, List.append_assoc, List.append_assoc, List.append_assoc, ← d2, ← d1, ← List.append_assoc]
        exact i2
    · cases g1
theorem fine_ris (l : List UInt8) : ∀ k, (rrn l (rini l) k).2.2.2 = true → Ris (rrn l (rini l) k).2.2.1 ∧ ∀ t ∈ (rrn l (rini l) k).2.2.1, t.length ≤ 64
  | 0, _ => ⟨List.Pairwise.nil, fun _ h => by cases h⟩
  | k + 1, h => by
    have e : (rrn l (rini l) (k + 1)).2.2.2 = ((rrn l (rini l) k).2.2.2 && _) := rfl
    rw [e, Bool.and_eq_true] at h
    obtain ⟨hr, hf⟩ := fine_ris l k h.1
    have h2 := h.2
    have e2 : (rrn l (rini l) (k + 1)).2.2.1 = (rrn l (rini l) k).2.2.1 ++ [_] := rfl
    rw [e2]
    generalize (rrn l (rini l) k).2.2.1 = ts at *
    generalize (Rd.uS l (rrn l (rini l) k).1 (rrn l (rini l) k).2.1) = u at *
    generalize (tS l u.2.1 u.2.2) = t at *
    unfold radB at h2
    simp only [Bool.and_eq_true, decide_eq_true_eq] at h2
    obtain ⟨b1, b2, b3⟩ := h2
    have hrd : rad (prv ts ts.length) u.1 t.1 = rad1 (prv ts ts.length) u.1 t.1 := by unfold rad; rw [if_neg (by omega)]
    generalize hs : rad (prv ts ts.length) u.1 t.1 = s at *
    have hsl : s.length ≤ 64 := by rw [hrd]; exact b2
    refine ⟨?_, fun x hx => ?_⟩
    · refine List.pairwise_append.2 ⟨hr, by simp, fun a ha b hb => ?_⟩
      simp only [List.mem_singleton] at hb
      subst hb
      obtain ⟨i, hi, rfl⟩ := List.getElem_of_mem ha
      have h1 := b3 (by omega)
      have hlast : ts.getD (ts.length - 1) [] = prv ts ts.length := by
        obtain ⟨j, hj⟩ : ∃ j, ts.length = j + 1 := ⟨ts.length - 1, by omega⟩
        rw [hj]; rfl
      rcases Nat.lt_or_eq_of_le (show i ≤ ts.length - 1 by omega) with hlt | heq
      · have := hr.get hlt (show ts.length - 1 < ts.length by omega)
        rw [← getD_at (show ts.length - 1 < ts.length by omega), hlast] at this
        exact lt_tr this h1
      · have e : ts[i] = prv ts ts.length := by rw [← hlast, ← heq, getD_at hi]
        rw [e]; exact h1
    · rcases List.mem_append.1 hx with hx | hx
      · exact hf x hx
      · simp only [List.mem_singleton] at hx
        subst hx; exact hsl
/-- Both answer the same texts. -/
theorem both (l : List UInt8) (he : en l (fnl l).1 (fnl l).2.1 = 0) (ts : List Str) :
    (fnl l).2.2 = some ts ↔ ((rrn l (rini l) (cS l 0 0 2).1).2.2 = (ts, true) ∧ ts.length ≤ 4096 ∧ byts ts = l) := by
  have h1 : (fnl l).2.1 = 0 ∧ ¬ (fnl l).1 < l.length := by
    unfold en at he
    split at he
    · rename_i hh; exact absurd he hh
    · rename_i hh
      split at he
      · cases he
      · rename_i h3; exact ⟨by omega, h3⟩
  constructor
  · intro h
    have hf := fnl_facts h
    have h0 : (cS l 0 0 2).2.2 = 0 := by
      by_cases hz : (cS l 0 0 2).2.2 = 0
      · exact hz
      · have := rnd_stick l 0 hz (cS l 0 0 2).1 (Nat.zero_le _)
        have e : (fnl l).2.1 = (cS l 0 0 2).2.2 := this
        rw [h1.1] at e; exact e.symm
    obtain ⟨c1, c2⟩ := canon l h0 _ ts h1.1 h
    have hn : ts.length = (cS l 0 0 2).1 := by have := rrn_len l (cS l 0 0 2).1; rw [c1] at this; exact this
    refine ⟨c1, hf.2.2, ?_⟩
    have hd : l.drop (rnd l (ini l) (cS l 0 0 2).1).1 = [] := List.drop_of_length_le (by have := h1.2; unfold fnl at this; omega)
    rw [hd, List.append_nil, ← hn] at c2
    exact c2.symm
  · rintro ⟨c1, c2, c3⟩
    have := fine_ris l (cS l 0 0 2).1 (by rw [c1])
    rw [c1] at this
    have hb := fnl_back' this.1 this.2 c2
    rw [c3] at hb
    rw [hb]
end Go.Proofs.Ytfhldldcfdimhaa
