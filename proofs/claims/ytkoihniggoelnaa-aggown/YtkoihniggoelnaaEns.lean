/- Rows of facts with how often, as they lie in memory. -/
import Derived.Test.YtkoihniggoelnaaOMath
import Derived.Test.YtkoihniggoelnaaReg
namespace Go.Proofs.Ytkoihniggoelnaa
open Go.RowKit Go.Sort

def En.cells (e : En) : List Value := [.int .i64 e.f.t, e.f.dv, e.f.mv, .int .u64 e.n]
/-- Their cells, one behind the other. -/
def ev (l : List En) : List Value := l.flatMap En.cells
theorem ev_length (l : List En) : (ev l).length = l.length * 4 := by
  induction l with
  | nil => rfl
  | cons a l ih => simp only [ev, List.flatMap_cons, List.length_append] at *; rw [ih]; simp [En.cells]; omega
theorem ev_app (l m : List En) : ev (l ++ m) = ev l ++ ev m := by simp [ev]
theorem ev_get : ∀ (l : List En) (i c : Nat) (hi : i < l.length), c < 4 → (ev l)[i * 4 + c]? = (l[i].cells)[c]?
  | a :: l, 0, c, _, hc => by
    simp only [ev, List.flatMap_cons, List.getElem_cons_zero, Nat.zero_mul, Nat.zero_add]
    rw [List.getElem?_append_left (by simpa [En.cells] using hc)]
  | a :: l, i + 1, c, hi, hc => by
    have ih := ev_get l i c (by simpa using hi) hc
    simp only [ev, List.flatMap_cons, List.getElem_cons_succ]
    rw [List.getElem?_append_right (by simp [En.cells]; omega)]
    simp only [En.cells, List.length_cons, List.length_nil] at *
    rw [show (i + 1) * 4 + c - (0 + 1 + 1 + 1 + 1) = i * 4 + c by omega]
    exact ih
/-- A slice of rows. -/
structure RdsM (w : World) (v : Value) (l : List En) : Prop where
  r : RdsK 4 w v l.length (ev l)
  ok : ∀ e ∈ l, e.f.Ok w
theorem RdsM.below {w w' : World} {v : Value} {l : List En} (h : RdsM w v l) (hb : Below w.heap.size w w') : RdsM w' v l := ⟨h.r.below hb, fun e he => (h.ok e he).up hb⟩
theorem RdsM.nil (w : World) : RdsM w (.slice none 0 0) [] := ⟨RdsK.nil 4 w, fun _ h => by cases h⟩
theorem RdsM.at {w : World} {ao : Option Addr} {n cap : Nat} {l : List En} (h : RdsM w (.slice ao n cap) l) (h0 : 0 < l.length) :
    n = l.length ∧ n ≤ cap ∧ cap ≤ maxLen ∧ ∃ b off, ao = some ⟨b, off, none⟩ ∧ ∀ i (hi : i < l.length),
      w.cell? ⟨b, off + i * 4, none⟩ = some (.int .i64 l[i].f.t) ∧ w.cell? ⟨b, off + i * 4 + 1, none⟩ = some l[i].f.dv ∧ w.cell? ⟨b, off + i * 4 + 2, none⟩ = some l[i].f.mv ∧ w.cell? ⟨b, off + i * 4 + 3, none⟩ = some (.int .u64 l[i].n) := by
  obtain ⟨rfl, k0, k1, k2, k3, k4⟩ := h.r.cells (by decide)
  obtain ⟨b, off, rfl, hc⟩ := k3 h0
  refine ⟨rfl, k1, k2, b, off, rfl, fun i hi => ?_⟩
  have g : ∀ c, c < 4 → (ev l)[i * 4 + c]? = (l[i].cells)[c]? := fun c hc => ev_get l i c hi hc
  refine ⟨?_, ?_, ?_, ?_⟩
  · exact hc (i * 4) _ (by have := g 0 (by omega); simpa [En.cells] using this)
  · rw [Nat.add_assoc]; exact hc (i * 4 + 1) _ (by have := g 1 (by omega); simpa [En.cells] using this)
  · rw [Nat.add_assoc]; exact hc (i * 4 + 2) _ (by have := g 2 (by omega); simpa [En.cells] using this)
  · rw [Nat.add_assoc]; exact hc (i * 4 + 3) _ (by have := g 3 (by omega); simpa [En.cells] using this)
theorem RdsM.len {w : World} {ao : Option Addr} {n cap : Nat} {l : List En} (h : RdsM w (.slice ao n cap) l) : n = l.length ∧ n ≤ cap ∧ cap ≤ maxLen := by
  obtain ⟨rfl, k0, k1, k2, k3, k4⟩ := h.r.cells (by decide)
  exact ⟨rfl, k1, k2⟩
theorem RdsM.sl {w : World} {v : Value} {l : List En} (h : RdsM w v l) : ∃ ao n cap, v = .slice ao n cap := by obtain ⟨ao, cap, rfl, _⟩ := h.r; exact ⟨_, _, _, rfl⟩
theorem one_rds (w : World) (e : En) (B : Nat) (hB : B = w.heap.size) : RdsK 4 (w.alloc (.cells #[.int .i64 e.f.t, e.f.dv, e.f.mv, .int .u64 e.n] 49)) (.slice (some ⟨B, 0, none⟩) 1 1) 1 (ev [e]) := by
  subst hB
  refine ⟨some ⟨w.heap.size, 0, none⟩, 1, rfl, by simp [ev, En.cells], Nat.le_refl _, by decide, (fun h => by cases h), ?_⟩
  rintro ad ⟨rfl⟩ j u hj
  rw [Addr.add_lit, Nat.zero_add]
  have hj4 : j < 4 := by
    have := (List.getElem?_eq_some_iff.1 hj).1
    simpa [ev, En.cells] using this
  have : j = 0 ∨ j = 1 ∨ j = 2 ∨ j = 3 := by omega
  rcases this with rfl | rfl | rfl | rfl
  all_goals
    simp [ev, En.cells] at hj
    subst hj
    exact al_new _ _ _ rfl rfl
theorem tot_take (l : List En) (i : Nat) (hi : i < l.length) : tot (l.take (i + 1)) = tot (l.take i) + l[i].n := by
  rw [List.take_succ_eq_append_getElem hi, tot_append]; simp [tot]
theorem tot_take_le : ∀ (l : List En) (i : Nat), tot (l.take i) ≤ tot l
  | [], i => by simp
  | e :: l, 0 => by rw [List.take_zero]; exact tot_nonneg (e :: l)
  | e :: l, i + 1 => by rw [List.take_succ_cons, tot_cons, tot_cons]; have := tot_take_le l i; omega
theorem foldl_take {α β : Type} (g : β → α → β) (b : β) (l : List α) (i : Nat) (hi : i < l.length) : (l.take (i + 1)).foldl g b = g ((l.take i).foldl g b) l[i] := by
  rw [List.take_succ_eq_append_getElem hi, List.foldl_append]; rfl
end Go.Proofs.Ytkoihniggoelnaa
