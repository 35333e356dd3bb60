/- Are two filters the same, part by part? No walk stands here. -/
import Derived.Test.YtlfkhinmncbkcaaLaws0
namespace Go.Proofs.Ytlfkhinmncbkcaa
open Go.RowKit Go.Sort

def allZip : List (Tr → Bool) → List Tr → Bool
  | [], [] => true
  | f :: fs, t :: ts => f t && allZip fs ts
  | _, _ => false
def sameE (a : Tr) (fs : List (Tr → Bool)) (b : Tr) : Bool :=
  decide (a.k = b.k) && (if a.k = 5 ∨ a.k = 6 ∨ a.k = 7 then decide (a.d = b.d) && decide (a.ts = b.ts)
    else if a.k = 8 then decide (a.d = b.d) && (decide (a.lo = b.lo) && decide (a.hi = b.hi)) else allZip fs b.kids)
def Tr.same (a : Tr) : Tr → Bool := sameE a (a.kids.attach.map fun c => c.1.same)
termination_by SizeOf.sizeOf a
decreasing_by exact kids_lt c.2
theorem Tr.same_eq (a : Tr) : a.same = sameE a (a.kids.map Tr.same) := by
  rw [Tr.same, List.attach_map_val (f := Tr.same)]
theorem same_k {a b : Tr} (h : a.k ≠ b.k) : a.same b = false := by
  rw [a.same_eq]; unfold sameE; rw [decide_eq_false h]; rfl
theorem same_5 {a b : Tr} (h : a.k = b.k) (h5 : a.k = 5 ∨ a.k = 6 ∨ a.k = 7) : a.same b = (decide (a.d = b.d) && decide (a.ts = b.ts)) := by
  rw [a.same_eq]; unfold sameE; rw [decide_eq_true h, if_pos h5]; simp
theorem same_8 {a b : Tr} (h : a.k = b.k) (h8 : a.k = 8) : a.same b = (decide (a.d = b.d) && (decide (a.lo = b.lo) && decide (a.hi = b.hi))) := by
  rw [a.same_eq]; unfold sameE; rw [decide_eq_true h, if_neg (by omega), if_pos h8]; simp
theorem same_o {a b : Tr} (h : a.k = b.k) (h5 : ¬(a.k = 5 ∨ a.k = 6 ∨ a.k = 7)) (h8 : a.k ≠ 8) : a.same b = allZip (a.kids.map Tr.same) b.kids := by
  rw [a.same_eq]; unfold sameE; rw [decide_eq_true h, if_neg h5, if_neg h8]; simp
theorem allZip_len : ∀ {l m : List Tr}, l.length ≠ m.length → allZip (l.map Tr.same) m = false
  | [], [], h => absurd rfl h
  | [], _ :: _, _ => rfl
  | _ :: _, [], _ => rfl
  | a :: l, b :: m, h => by
    simp only [List.map_cons, allZip]
    rw [allZip_len (l := l) (m := m) (by simpa using h)]; simp
theorem allZip_bad : ∀ {l m : List Tr} (i : Nat) (hl : i < l.length) (hm : i < m.length), l[i].same m[i] = false → allZip (l.map Tr.same) m = false
  | a :: l, b :: m, 0, _, _, h => by simp only [List.getElem_cons_zero] at h; simp [allZip, h]
  | a :: l, b :: m, i + 1, hl, hm, h => by
    simp only [List.getElem_cons_succ] at h
    have := allZip_bad (l := l) (m := m) i (by simpa using hl) (by simpa using hm) h
    simp only [List.map_cons, allZip]
    rw [this]; simp
theorem allZip_good : ∀ {l m : List Tr}, l.length = m.length → (∀ i (hl : i < l.length) (hm : i < m.length), l[i].same m[i] = true) → allZip (l.map Tr.same) m = true
  | [], [], _, _ => rfl
  | [], _ :: _, h, _ => by simp at h
  | _ :: _, [], h, _ => by simp at h
  | a :: l, b :: m, h, hh => by
    simp only [List.map_cons, allZip]
    have h0 := hh 0 (by simp) (by simp)
    simp only [List.getElem_cons_zero] at h0
    rw [h0, allZip_good (l := l) (m := m) (by simpa using h) fun i hl hm => by
      have := hh (i + 1) (by simpa using hl) (by simpa using hm)
      simpa using this]
    rfl
/-- What is the same without its values is the same. -/
theorem same_er (a : Tr) : ∀ b : Tr, a.er = b.er → a.same b = true := by
  suffices k : ∀ N (a : Tr), SizeOf.sizeOf a < N → ∀ b : Tr, a.er = b.er → a.same b = true from k _ a (Nat.lt_succ_self _)
  intro N
  induction N with
  | zero => intro a h; omega
  | succ N ih =>
    intro a ha b he
    have hk : a.k = b.k := by rw [← er_k, he, er_k]
    have hd : a.d = b.d := by rw [← er_d, he, er_d]
    have ht : a.ts = b.ts := by rw [← er_ts, he, er_ts]
    have hlo : a.lo = b.lo := by rw [← er_lo, he, er_lo]
    have hhi : a.hi = b.hi := by rw [← er_hi, he, er_hi]
    by_cases h5 : a.k = 5 ∨ a.k = 6 ∨ a.k = 7
    · rw [same_5 hk h5, decide_eq_true hd, decide_eq_true ht]; rfl
    · by_cases h8 : a.k = 8
      · rw [same_8 hk h8, decide_eq_true hd, decide_eq_true hlo, decide_eq_true hhi]; rfl
      · rw [same_o hk h5 h8]
        have hm : a.kids.map Tr.er = b.kids.map Tr.er := by rw [← er_kids, he, er_kids]
        have hl : a.kids.length = b.kids.length := by have := congrArg List.length hm; simpa using this
        refine allZip_good hl fun i hi hj => ih _ (by have := kids_lt (List.getElem_mem hi); omega) _ ?_
        have e1 : (a.kids.map Tr.er)[i]? = (b.kids.map Tr.er)[i]? := by rw [hm]
        simpa [hi, hj] using e1
end Go.Proofs.Ytlfkhinmncbkcaa
