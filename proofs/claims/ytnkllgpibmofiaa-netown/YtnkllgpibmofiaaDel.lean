/- slices.Delete of one at a row of pointers of one's own. -/
import Derived.Test.YtnkllgpibmofiaaGro
import Derived.Deep.MidRow
import Derived.ArgAppend
import Derived.Lib.SliceRun
namespace Go.Proofs.Ytnkllgpibmofiaa
open Go.RowKit Go.Maps Go.Sort
set_option linter.unusedVariables false

def setL (xs : List Value) : Nat → List Value → List Value
  | _, [] => xs
  | o, c :: cs => setL (xs.set o c) (o + 1) cs
theorem setL_length : ∀ (cs : List Value) (xs : List Value) (o : Nat), (setL xs o cs).length = xs.length
  | [], _, _ => rfl
  | c :: cs, xs, o => by unfold setL; rw [setL_length cs]; simp
theorem setL_get : ∀ (cs : List Value) (xs : List Value) (o : Nat), o + cs.length ≤ xs.length → ∀ j, (setL xs o cs)[j]? = if o ≤ j ∧ j < o + cs.length then cs[j - o]? else xs[j]?
  | [], xs, o, _, j => by unfold setL; rw [if_neg (by simp)]
  | c :: cs, xs, o, h, j => by
    unfold setL
    simp only [List.length_cons] at h ⊢
    rw [setL_get cs (xs.set o c) (o + 1) (by simp; omega) j]
    by_cases h1 : j = o
    · subst h1
      rw [if_neg (by omega), if_pos (by omega), Nat.sub_self, List.getElem?_set_self (by omega)]
      rfl
    · by_cases h2 : o + 1 ≤ j ∧ j < o + 1 + cs.length
      · rw [if_pos h2, if_pos (by omega), show j - o = (j - (o + 1)) + 1 by omega, List.getElem?_cons_succ]
      · rw [if_neg h2, if_neg (by omega), List.getElem?_set_ne (by omega)]
theorem own_setCells {base e : Nat} {g n c : Nat} : ∀ (cs : List Value) (o : Nat) {w : World} {xs : List Value}, w.ownsRow base e 1 (.slice (some ⟨g, 0, none⟩) n c) n xs → (w.setCells g o cs).ownsRow base e 1 (.slice (some ⟨g, 0, none⟩) n c) n (setL xs o cs) ∧ w.grownBy (w.setCells g o cs) (some g)
  | [], _, w, xs, h => ⟨h, World.grownBy.refl _ _⟩
  | x :: cs, o, w, xs, h => by
    have h1 := World.ownsRow.stored h o x
    have h2 := own_setCells cs (o + 1) h1.1
    exact ⟨h2.1, grown_trans h1.2 h2.2⟩
theorem erase_eq (xs : List Value) (i n : Nat) (u : Value) (hn : xs.length = n + 1) (hi : i < n + 1) : ((setL xs i (xs.drop (i + 1))).set n u).take n = xs.eraseIdx i := by
  apply List.ext_getElem?
  intro j
  have hl : i + (xs.drop (i + 1)).length ≤ xs.length := by rw [List.length_drop]; omega
  rw [List.getElem?_take, List.getElem?_eraseIdx]
  by_cases h1 : j < n
  · rw [if_pos h1, List.getElem?_set_ne (by omega), setL_get _ _ _ hl, List.length_drop]
    by_cases h2 : j < i
    · rw [if_neg (by omega), if_pos h2]
    · rw [if_pos (by omega), if_neg h2, List.getElem?_drop]
      congr 1
      omega
  · rw [if_neg h1]
    symm
    split
    · omega
    · exact List.getElem?_eq_none (by omega)
theorem step_appR {P : Program} {ops : Array Oper} {o : Oper} {a : Act} {w : World} {K : Act → World → Prop} {Q : Exit → Act → World → Prop} {E : Prop} (hgd : o.guard = none) (s x : Operand) (t : TypeId)
    (ho : o.op = .call { callee := .builtin .append, args := #[s, x], argTypes := #[t, t] })
    (e : TypeId) (i : TypeInfo) (ht : P.underlying t = some (.slice e)) (hi : P.info? e = some i) (hsize : i.size = 1)
    (g n c : Nat) (A : Addr) (m c2 : Nat) (news : List Value) (hs : a.eval s = .slice (some ⟨g, 0, none⟩) n c) (hx : a.eval x = .slice (some A) m c2) (hl : news.length = m) (hnews : ∀ j u, news[j]? = some u → w.cell? (A.add j) = some u) (h1 : ∀ u ∈ news, u.oneCell' = true)
    (hroom : n + m ≤ c) (hc : ∀ j, j < news.length → (w.cell? ⟨g, n + j, none⟩).isSome = true) (hf : ∀ j, j < news.length → w.frozen? ⟨g, n + j, none⟩ = false)
    (h : K (a.put o.dst (.slice (some ⟨g, 0, none⟩) (n + m) c)) (w.setCells g n news)) :
    if Region.wanted o (yielded ops a.tmps) = true then Oper.wp P o a w K Q else E := by
  have hw : Region.wanted o (yielded ops a.tmps) = true := by simp [Region.wanted, hgd]
  rw [if_pos hw]
  have hrun := run_append_room_cells (P := P) (w := w) t o.type e i ht hi g 0 n c A m c2 news (by rw [hsize]; omega) hnews h1 hroom (by rw [hsize, Nat.mul_one, Nat.zero_add]; exact hc) (by rw [hsize, Nat.mul_one, Nat.zero_add]; exact hf)
  rw [hsize, Nat.mul_one, Nat.zero_add] at hrun
  unfold Oper.wp execOp
  simp only [ho, resolve, invoke, builtin, Sem.run_bind, Sem.run_pure, Result.andThen_ok, List.map_toArray, List.map_cons, List.map_nil, hs, hx, hrun]
  exact h
end Go.Proofs.Ytnkllgpibmofiaa
