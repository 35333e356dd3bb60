/- What an aggregator has can be merged in any order. No walk stands here. -/
import Derived.Test.YtkoihniggoelnaaAdd
import Derived.Test.YtkoihniggoelnaaUMath2
namespace Go.Proofs.Ytkoihniggoelnaa
open Go.RowKit Go.Sort

/-- What an aggregator of the kind k may have of at most M facts. -/
structure Gd (k M : Int) (p : P0) : Prop where
  n0 : 0 ≤ p.1
  nM : p.1 ≤ M
  z : p.1 = 0 → p = (0, 0, [])
  v0 : k ≠ 2 → k ≠ 3 → k ≠ 4 → p.2.1 = 0
  t0 : k ≠ 5 → p.2.2 = []
  tr : Ris p.2.2
  t1 : k = 5 → p.1 ≠ 0 → 0 < p.2.2.length
  tl : (p.2.2.length : Int) ≤ p.1
  ts : ∀ t ∈ p.2.2, t.length ≤ 64
abbrev U0 : P0 := (0, 0, [])
theorem Gd.unit (k : Int) : Gd k 0 U0 := ⟨by simp, by simp, fun _ => rfl, fun _ _ _ => rfl, fun _ => rfl, by simp [Ris], fun _ h => absurd rfl h, by simp, by simp⟩
theorem Gd.mono {k M M' : Int} {p : P0} (h : Gd k M p) (hM : M ≤ M') : Gd k M' p := { h with nM := by have := h.nM; omega }
theorem u64_in {n : Int} (h : 0 ≤ n) (k : n < 18446744073709551616) : IntKind.u64.wrap n = n := by
  rw [IntKind.wrap_u64]; omega
theorem mrg_n {k M M' : Int} {p q : P0} (hp : Gd k M p) (hq : Gd k M' q) (hM : M + M' < 18446744073709551616) : (mrgP k p q).1 = p.1 + q.1 := by
  have a1 := hp.n0; have a2 := hp.nM; have b1 := hq.n0; have b2 := hq.nM
  unfold mrgP
  by_cases h1 : p.1 = 0
  · by_cases h2 : q.1 = 0
    · rw [if_pos ⟨h1, h2⟩, h1, h2]; rfl
    · rw [if_neg (fun h => h2 h.2), if_pos h1, h1]; omega
  · by_cases h2 : q.1 = 0
    · rw [if_neg (fun h => h1 h.1), if_neg h1, if_pos h2, h2]; omega
    · rw [if_neg (fun h => h1 h.1), if_neg h1, if_neg h2]
      exact u64_in (by omega) (by omega)
/-- The rest, where neither is of no facts. -/
theorem mrg_both {k M M' : Int} {p q : P0} (hp : Gd k M p) (hq : Gd k M' q) (hM : M + M' < 18446744073709551616) (h1 : p.1 ≠ 0) (h2 : q.1 ≠ 0) : mrgP k p q = (p.1 + q.1, jv k p q, jt k p q) := by
  have a1 := hp.n0; have a2 := hp.nM; have b1 := hq.n0; have b2 := hq.nM
  unfold mrgP
  rw [if_neg (fun h => h1 h.1), if_neg h1, if_neg h2, u64_in (by omega) (by omega)]
theorem mrg_l {k M : Int} {q : P0} (hq : Gd k M q) : mrgP k U0 q = q := by
  unfold mrgP
  by_cases h2 : q.1 = 0
  · rw [if_pos ⟨rfl, h2⟩]; exact (hq.z h2).symm
  · rw [if_neg (fun h => h2 h.2), if_pos rfl]
theorem mrg_r {k M : Int} {p : P0} (hp : Gd k M p) : mrgP k p U0 = p := by
  unfold mrgP
  by_cases h2 : p.1 = 0
  · rw [if_pos ⟨h2, rfl⟩]; exact (hp.z h2).symm
  · rw [if_neg (fun h => h2 h.1), if_neg h2, if_pos rfl]
theorem Gd.mrg {k M M' : Int} {p q : P0} (hp : Gd k M p) (hq : Gd k M' q) (hM : M + M' < 18446744073709551616) : Gd k (M + M') (mrgP k p q) := by
  have a1 := hp.n0; have a2 := hp.nM; have b1 := hq.n0; have b2 := hq.nM
  by_cases h1 : p.1 = 0
  · rw [hp.z h1, mrg_l hq]; exact hq.mono (by omega)
  · by_cases h2 : q.1 = 0
    · rw [hq.z h2, mrg_r hp]; exact hp.mono (by omega)
    · rw [mrg_both hp hq hM h1 h2]
      have hu := uniL_ris hp.tr hq.tr
      have hl := uniL_len p.2.2 q.2.2
      refine ⟨by simp; omega, by simp; omega, fun h => by simp at h; omega, fun e2 e3 e4 => by simp [jv, e2, e3, e4], fun h5 => by simp [jt, h5], ?_, ?_, ?_, ?_⟩
      · simp only [jt]; split
        · exact hu.1
        · simp [Ris]
      · intro h5 _
        have := hp.t1 h5 h1
        simp only [jt, if_pos h5]
        obtain ⟨t, ht⟩ := List.exists_mem_of_length_pos this
        exact List.length_pos_of_mem ((hu.2 t).2 (.inl ht))
      · have := hp.tl; have := hq.tl
        simp only [jt]; split
        · omega
        · simp; omega
      · simp only [jt]; split
        · intro t ht
          rcases (hu.2 t).1 ht with h | h
          · exact hp.ts t h
          · exact hq.ts t h
        · simp
theorem mrg_comm {k M M' : Int} {p q : P0} (hp : Gd k M p) (hq : Gd k M' q) (hM : M + M' < 18446744073709551616) : mrgP k p q = mrgP k q p := by
  by_cases h1 : p.1 = 0
  · rw [hp.z h1, mrg_l hq, mrg_r hq]
  · by_cases h2 : q.1 = 0
    · rw [hq.z h2, mrg_l hp, mrg_r hp]
    · rw [mrg_both hp hq hM h1 h2, mrg_both hq hp (by omega) h2 h1, Int.add_comm]
      congr 2
      · unfold jv
        rw [Int.add_comm, Int.min_comm, Int.max_comm]
      · unfold jt
        rw [uniL_comm hp.tr hq.tr]
theorem w64_l (a b : Int) : wrap64 (wrap64 a + b) = wrap64 (a + b) := by unfold wrap64; omega
theorem w64_r (a b : Int) : wrap64 (a + wrap64 b) = wrap64 (a + b) := by unfold wrap64; omega
theorem mrg_assoc {k M M' M'' : Int} {p q r : P0} (hp : Gd k M p) (hq : Gd k M' q) (hr : Gd k M'' r) (hM : M + M' + M'' < 18446744073709551616) : mrgP k (mrgP k p q) r = mrgP k p (mrgP k q r) := by
  have p1 := hp.n0; have p2 := hp.nM; have q1 := hq.n0; have q2 := hq.nM; have r1 := hr.n0; have r2 := hr.nM
  by_cases h1 : p.1 = 0
  · rw [hp.z h1, mrg_l hq, mrg_l (hq.mrg hr (by omega))]
  · by_cases h2 : q.1 = 0
    · rw [hq.z h2, mrg_r hp, mrg_l hr]
    · by_cases h3 : r.1 = 0
      · rw [hr.z h3, mrg_r (hp.mrg hq (by omega)), mrg_r hq]
      · have hpq := hp.mrg hq (by omega)
        have hqr := hq.mrg hr (by omega)
        have npq := mrg_n hp hq (by omega)
        have nqr := mrg_n hq hr (by omega)
        rw [mrg_both hpq hr (by omega) (by omega) h3, mrg_both hp hqr (by omega) h1 (by omega), npq, nqr, Int.add_assoc]
        rw [mrg_both hp hq (by omega) h1 h2, mrg_both hq hr (by omega) h2 h3]
        congr 2
        · unfold jv
          simp only
          split
          · rw [w64_l, w64_r, Int.add_assoc]
          · split
            · exact Int.min_assoc _ _ _
            · split
              · exact Int.max_assoc _ _ _
              · rfl
        · unfold jt
          simp only
          split
          · exact uniL_assoc hp.tr hq.tr hr.tr
          · rfl
/-- What it has of one fact, so many times. -/
def hasZ (k c : Int) (f : Fc) (n : Int) : P0 := if n = 0 then U0 else hasP k c f n
structure FOk (f : Fc) : Prop where
  ds : ∀ t ∈ f.ds, t.length ≤ 64
theorem FOk.atS {f : Fc} (h : FOk f) (c : Int) : (atS f.ds c).length ≤ 64 := by
  unfold Go.Proofs.Ytkoihniggoelnaa.atS
  split
  · next hc =>
    have hl : c.toNat < f.ds.length := by omega
    have : f.ds.getD c.toNat [] = f.ds[c.toNat] := by simp [hl]
    rw [this]; exact h.ds _ (List.getElem_mem hl)
  · simp
theorem Gd.has {k c : Int} {f : Fc} {n : Int} (hf : FOk f) (h0 : 0 ≤ n) : Gd k n (hasZ k c f n) := by
  unfold hasZ
  by_cases hn : n = 0
  · rw [if_pos hn, hn]; exact Gd.unit k
  · rw [if_neg hn]
    have hs := hf.atS c
    unfold hasP
    by_cases h2 : k = 2
    · rw [if_pos h2]
      exact ⟨h0, by simp, fun h => absurd h hn, fun h => absurd h2 h, fun _ => rfl, by simp [Ris], fun h5 => by omega, by simp; omega, by simp⟩
    · rw [if_neg h2]
      by_cases h34 : k = 3 ∨ k = 4
      · rw [if_pos h34]
        exact ⟨h0, by simp, fun h => absurd h hn, fun _ h3 h4 => by omega, fun _ => rfl, by simp [Ris], fun h5 => by omega, by simp; omega, by simp⟩
      · rw [if_neg h34]
        by_cases h5 : k = 5
        · rw [if_pos h5]
          exact ⟨h0, by simp, fun h => absurd h hn, fun _ _ _ => rfl, fun h => absurd h5 h, by simp [Ris], fun _ _ => by simp, by simp; omega, by simpa using hs⟩
        · rw [if_neg h5]
          exact ⟨h0, by simp, fun h => absurd h hn, fun _ _ _ => rfl, fun _ => rfl, by simp [Ris], fun h => absurd h h5, by simp; omega, by simp⟩
theorem addP_has {k c M : Int} {p : P0} {f : Fc} {n : Int} (hp : Gd k M p) : addP k c p f n = mrgP k p (hasZ k c f n) := by
  unfold addP hasZ
  by_cases hn : n = 0
  · rw [if_pos hn, if_pos hn, mrg_r hp]
  · rw [if_neg hn, if_neg hn]
end Go.Proofs.Ytkoihniggoelnaa
