/- Choices of rising dimensions: each may be, none is twice, and each beginning is one of them. No walk stands here. -/
import Derived.Test.YtiiihjihegilnaaDoorQaw
namespace Go.Proofs.YtiiihjihegilnaaDoor
open Go.RowKit Go.Sort

theorem risB_mono (D : Int) : ∀ (s : List Int) {lo lo' : Int}, lo' ≤ lo → risB D s lo = true → risB D s lo' = true
  | [], _, _, _, _ => rfl
  | a :: s, lo, lo', h, hr => by
    simp only [risB, Bool.and_eq_true, decide_eq_true_eq] at *
    exact ⟨by omega, hr.2⟩
theorem risB_sub {D : Int} {s d : List Int} (h : s.Sublist d) : ∀ {lo : Int}, risB D d lo = true → risB D s lo = true := by
  induction h with
  | slnil => intro _ _; rfl
  | cons a _ ih =>
    intro lo hr
    simp only [risB, Bool.and_eq_true, decide_eq_true_eq] at hr
    exact risB_mono D _ (by omega) (ih hr.2.2)
  | cons_cons a _ ih =>
    intro lo hr
    simp only [risB, Bool.and_eq_true, decide_eq_true_eq] at *
    exact ⟨hr.1, hr.2.1, ih hr.2.2⟩
theorem risB_ge (D : Int) : ∀ (s : List Int) {lo : Int}, risB D s lo = true → ∀ x ∈ s, lo ≤ x
  | [], _, _, x, hx => by cases hx
  | a :: s, lo, hr, x, hx => by
    simp only [risB, Bool.and_eq_true, decide_eq_true_eq] at hr
    rcases List.mem_cons.1 hx with rfl | hx
    · exact hr.1
    · have := risB_ge D s hr.2.2 x hx; omega
theorem risB_snoc (D : Int) : ∀ (s : List Int) {lo : Int} {x : Int}, risB x s lo = true → lo ≤ x → x < D → risB D (s ++ [x]) lo = true
  | [], lo, x, _, h1, h2 => by simp [risB, h1, h2]
  | a :: s, lo, x, hr, h1, h2 => by
    simp only [risB, Bool.and_eq_true, decide_eq_true_eq, List.cons_append] at *
    exact ⟨hr.1, by omega, risB_snoc D s hr.2.2 (by omega) h2⟩
theorem risB_up (D D' : Int) (h : D ≤ D') : ∀ (s : List Int) {lo : Int}, risB D s lo = true → risB D' s lo = true
  | [], _, _ => rfl
  | a :: s, lo, hr => by
    simp only [risB, Bool.and_eq_true, decide_eq_true_eq] at *
    exact ⟨hr.1, by omega, risB_up D D' h s hr.2.2⟩
theorem rcub_sub : ∀ (d : List Int), ∀ s ∈ rcub d, s.Sublist d
  | [], s, h => by simp [rcub] at h; subst h; exact .slnil
  | a :: d, s, h => by
    rw [rcub] at h
    rcases List.mem_append.1 h with h | h
    · obtain ⟨t, ht, rfl⟩ := List.mem_map.1 h
      exact .cons_cons a (rcub_sub d t ht)
    · exact .cons a (rcub_sub d s h)
theorem rcub_all {s d : List Int} (h : s.Sublist d) : s ∈ rcub d := by
  induction h with
  | slnil => simp [rcub]
  | cons a _ ih => rw [rcub]; exact List.mem_append.2 (.inr ih)
  | cons_cons a _ ih => rw [rcub]; exact List.mem_append.2 (.inl (List.mem_map.2 ⟨_, ih, rfl⟩))
theorem rcub_once {D : Int} : ∀ (d : List Int) {lo : Int}, risB D d lo = true → (rcub d).Nodup
  | [], _, _ => by simp [rcub]
  | a :: d, lo, hr => by
    simp only [risB, Bool.and_eq_true, decide_eq_true_eq] at hr
    have ih := rcub_once d hr.2.2
    rw [rcub]
    refine List.nodup_append.2 ⟨?_, ih, ?_⟩
    · exact (List.pairwise_map.2 (ih.imp fun h e => h (List.cons.inj e).2))
    · intro s hs t ht e
      subst e
      obtain ⟨t, _, rfl⟩ := List.mem_map.1 hs
      have h1 := rcub_sub d _ ht
      have h2 := risB_ge D d hr.2.2 a (h1.subset (by simp))
      omega
def cnt1 (r : List (List Int)) (s : List Int) : Nat := r.countP fun t => decide (s = t)
def cnt (c r : List (List Int)) : Nat := (c.map (cnt1 r)).sum
theorem cnt_app (c c' r : List (List Int)) : cnt (c ++ c') r = cnt c r + cnt c' r := by simp [cnt]
theorem cnt_nil (c : List (List Int)) : cnt c [] = 0 := by
  induction c with
  | nil => rfl
  | cons s c ih => unfold cnt at *; simp [cnt1, ih]
theorem cnt_cons (x : List Int) (r : List (List Int)) : ∀ c, cnt c (x :: r) = cnt c r + c.countP fun s => decide (s = x)
  | [] => rfl
  | s :: c => by
    have ih := cnt_cons x r c
    unfold cnt at *
    rw [List.map_cons, List.map_cons, List.sum_cons, List.sum_cons, ih, List.countP_cons]
    have : cnt1 (x :: r) s = cnt1 r s + if decide (s = x) = true then 1 else 0 := by unfold cnt1; rw [List.countP_cons]
    rw [this]; omega
theorem one_in {x : List Int} : ∀ {c : List (List Int)}, c.Nodup → x ∈ c → (c.countP fun s => decide (s = x)) = 1
  | s :: c, hn, hx => by
    obtain ⟨h1, h2⟩ := List.nodup_cons.1 hn
    rw [List.countP_cons]
    by_cases e : s = x
    · subst e
      have : (c.countP fun t => decide (t = s)) = 0 := List.countP_eq_zero.2 fun t ht => by simp; intro e; subst e; exact h1 ht
      rw [this]; simp
    · have hx' : x ∈ c := (List.mem_cons.1 hx).resolve_left fun h => e h.symm
      rw [one_in h2 hx']; simp [e]
theorem cnt_all {c : List (List Int)} (hn : c.Nodup) : ∀ r : List (List Int), (∀ x ∈ r, x ∈ c) → cnt c r = r.length
  | [], _ => cnt_nil c
  | x :: r, h => by rw [cnt_cons, cnt_all hn r fun y hy => h y (by simp [hy]), one_in hn (h x (by simp))]; rfl
theorem rol_mem (d : List Int) : ∀ s ∈ rol d, s.Sublist d := fun s hs => by
  unfold rol at hs
  obtain ⟨k, _, rfl⟩ := List.mem_map.1 (List.mem_reverse.1 hs)
  exact List.take_sublist _ _
theorem fits_ok {l : List St} {d : List Int} (hd : risB 8 d 0 = true) (h : ∀ s ∈ snds l, s.Sublist d) (h1 : 1 ≤ l.length) (h2 : l.length ≤ 64) : wset 8 l = -1 := by
  unfold wset
  rw [if_neg (by omega)]
  refine idxL_none fun j hj => ?_
  unfold setP
  rw [risB_sub (h l[j].2 (List.mem_map.2 ⟨_, List.getElem_mem hj, rfl⟩)) hd]; rfl
end Go.Proofs.YtiiihjihegilnaaDoor
