/- Contracts of rises, unless, wrongSet, wrongAgg. -/
import Derived.Test.YtiiihjihegilnaaGreatDoorMem
import Derived.Test.YtiiihjihegilnaaGreatDoorFi1
import Derived.Test.YtiiihjihegilnaaGreatDoorAg2
import Derived.Test.YtiiihjihegilnaaGreatDoorFx
import Derived.Deep.LoopGhost
import Derived.Deep.DeepCutAuto
import Derived.BigQuiet
import Derived.Handy
import Derived.Laws.EntriesVeiled
namespace Go.Proofs.YtiiihjihegilnaaGreatDoor
open Go.RowKit Go.Sort

/-- Do numbers from least to below D rise? -/
def risB (D : Int) : List Int → Int → Bool
  | [], _ => true
  | n :: r, least => decide (least ≤ n) && (decide (n < D) && risB D r (n + 1))
/-- The first place where it is so. -/
def idxL {α : Type} (p : α → Bool) : List α → Int
  | [] => -1
  | a :: l => if p a then 0 else if idxL p l = -1 then -1 else idxL p l + 1
theorem idxL_none {α : Type} {p : α → Bool} : ∀ {l : List α}, (∀ j (h : j < l.length), p l[j] = false) → idxL p l = -1
  | [], _ => rfl
  | a :: l, h => by
    have h0 := h 0 (by simp)
    have ih := idxL_none (l := l) fun j hj => by have := h (j + 1) (by simpa using hj); simpa using this
    simp only [List.getElem_cons_zero] at h0
    simp [idxL, h0, ih]
theorem idxL_hit {α : Type} {p : α → Bool} : ∀ {l : List α} {i : Nat} (hi : i < l.length), (∀ j (h : j < i), p (l[j]'(by omega)) = false) → p l[i] = true → idxL p l = i
  | a :: l, 0, _, _, h => by simp only [List.getElem_cons_zero] at h; simp [idxL, h]
  | a :: l, i + 1, hi, h0, h => by
    have h00 := h0 0 (by omega)
    simp only [List.getElem_cons_zero] at h00
    have ih := idxL_hit (l := l) (i := i) (by simpa using hi) (fun j hj => by have := h0 (j + 1) (by omega); simpa using this) (by simpa using h)
    simp only [idxL, h00, Bool.false_eq_true, if_false, ih]
    rw [if_neg (by omega)]; omega
def unl (b : Bool) : Int := if b then -1 else 0
theorem unless_any (w : World) (b : Bool) : Calls Tryz.prog 30 #[.bool b] w fun e w' => e = .returned (.int .i64 (unl b)) ∧ w' = w := by
  cases b
  · go_enter Tryz.func30, Tryz.ntmps30
    go_wp2_with fail
    go_ret
    exact ⟨rfl, rfl⟩
  · go_enter Tryz.func30, Tryz.ntmps30
    go_wp2_with fail
    go_ret
    exact ⟨rfl, rfl⟩
set_option maxHeartbeats 1600000 in
theorem rises_any (w : World) (v : Value) (l : List Int) (D : Int) (h : Rds w v (iv l)) (hD : D ≤ 9223372036854775807) :
    Calls Tryz.prog 52 #[v, .int .i64 D] w fun e w' => e = .returned (.bool (risB D l 0)) ∧ w' = w := by
  obtain ⟨ao, n, cap, rfl⟩ := h.sl
  obtain ⟨e0, e1, e2, e3⟩ := h.cells
  rw [iv_length] at e0 e1 e3
  unfold maxLen at e2
  have HC : Aside _ := e3
  have HN : Hid (n = l.length) := e0
  clear h e3 e0
  go_enter Tryz.func52, Tryz.ntmps52
  go_wp2_with fail
  go_loopg [5, 10] n (fun kx v5 v10 wr => ∃ (i : Nat) (z : Int), v10 = .int .i64 i ∧ v5 = .int .i64 z ∧ i ≤ n ∧ n - i ≤ kx ∧ 0 ≤ z ∧ Hid (risB D l 0 = risB D (l.drop i) z) ∧ Hid (wr = w))
  case atStart => exact ⟨0, 0, rfl, rfl, by omega, Nat.le_refl _, by omega, rfl, rfl⟩
  case round =>
    obtain ⟨i, z, rfl, rfl, hi, hkx, hz0, HR, HW⟩ := hrel
    obtain rfl := HW.out
    by_cases hlt : i < n
    · have hltz : (i : Int) < (n : Int) := by omega
      have hil : i < l.length := by have := HN.out; omega
      obtain ⟨b, off, rfl, hc⟩ := HC.out (by omega)
      have hci := hc i _ (iv_get l i hil)
      have hx : l.getD i 0 = l[i] := by simp [hil]
      have hst : risB D (l.drop i) z = (decide (z ≤ l[i]) && (decide (l[i] < D) && risB D (l.drop (i + 1)) (l[i] + 1))) := by rw [List.drop_eq_getElem_cons hil]; rfl
      rw [hx] at hci
      generalize l[i] = x at *
      have HST : Hid _ := hst
      clear hst hx hc
      by_cases h1 : x < z
      · have HF : Hid (risB D l 0 = false) := by show _ = _; rw [HR.out, HST.out, decide_eq_false (by omega)]; rfl
        go_wp2_with fail
        go_ret
        exact ⟨by rw [HF.out]; rfl, rfl⟩
      · by_cases h2 : D ≤ x
        · have HF : Hid (risB D l 0 = false) := by show _ = _; rw [HR.out, HST.out, decide_eq_false (show ¬ x < D by omega)]; simp
          go_wp2_with fail
          go_ret
          exact ⟨by rw [HF.out]; rfl, rfl⟩
        · have HF : Hid (risB D l 0 = risB D (l.drop (i + 1)) (x + 1)) := by show _ = _; rw [HR.out, HST.out, decide_eq_true (show z ≤ x by omega), decide_eq_true (show x < D by omega)]; rfl
          have hwz : IntKind.i64.wrap (x + 1) = x + 1 := by rw [IntWalk.i64_left]; exact IntWalk.wrap64_in _ (by omega)
          go_wp2_with fail
          go_roundg (n - (i + 1))
          case measure => omega
          case rel => exact ⟨i + 1, x + 1, by go_num, rfl, by omega, Nat.le_refl _, by omega, HF, rfl⟩
    · have hltz : ¬ (i : Int) < (n : Int) := by omega
      have HF : Hid (risB D l 0 = true) := by show _ = _; rw [HR.out, List.drop_of_length_le (by have := HN.out; omega)]; rfl
      go_wp2_with fail
      go_ret
      exact ⟨by rw [HF.out]; rfl, rfl⟩
/-- Grouping sets as they lie in memory. -/
abbrev St := Value × List Int
structure RdsS (w : World) (v : Value) (l : List St) : Prop where
  r : RdsK 1 w v l.length (l.map (·.1))
  ok : ∀ s ∈ l, Rds w s.1 (iv s.2)
theorem RdsS.below {w w' : World} {v : Value} {l : List St} (h : RdsS w v l) (b : Below w.heap.size w w') : RdsS w' v l := ⟨h.r.below b, fun s hs => (h.ok s hs).below b⟩
theorem RdsS.sl {w : World} {v : Value} {l : List St} (h : RdsS w v l) : ∃ a n c, v = .slice a n c := by obtain ⟨ao, cap, rfl, _⟩ := h.r; exact ⟨_, _, _, rfl⟩
def setP (D : Int) (s : St) : Bool := !risB D s.2 0
set_option maxHeartbeats 1600000 in
theorem setClo_any (w : World) (B : Nat) (D : Int) (s : St) (h : Rds w s.1 (iv s.2)) (hD : D ≤ 9223372036854775807) (hB : w.cell? ⟨B, 0, none⟩ = some (.int .i64 D)) :
    Calls Tryz.prog 51 #[s.1, .pointer (some ⟨B, 0, none⟩)] w fun e w' => e = .returned (.bool (setP D s)) ∧ w' = w := by
  obtain ⟨v, l⟩ := s
  obtain ⟨ao, n, cap, rfl⟩ := h.sl
  have k := rises_any w _ l D h hD
  unfold setP
  simp only at *
  generalize risB D l 0 = b at *
  clear h
  go_enter Tryz.func51, Tryz.ntmps51
  go_wp2_with fail
  refine k.mono ?_
  rintro e w1 ⟨rfl, rfl⟩
  go_wp2_with fail
  go_ret
  exact ⟨rfl, rfl⟩
set_option maxHeartbeats 1600000 in
theorem setIdx_any (w : World) (B : Nat) (D : Int) (v : Value) (l : List St) (h : RdsS w v l) (hD : D ≤ 9223372036854775807) (hB : w.cell? ⟨B, 0, none⟩ = some (.int .i64 D)) :
    Calls Tryz.prog 50 #[v, .func (.func 51) #[] #[.pointer (some ⟨B, 0, none⟩)]] w fun e w' => e = .returned (.int .i64 (idxL (setP D) l)) ∧ w' = w := by
  obtain ⟨ao, n, cap, rfl⟩ := h.sl
  obtain ⟨e0, e1, e2, e3, e4, e5⟩ := h.r.cells (by decide)
  unfold maxLen at e3
  have HC : Aside _ := e4
  have HN : Hid (n = l.length) := by show _ = _; omega
  have HH : Hid _ := h
  clear h e5 e4 e0 e1
  go_enter Tryz.func50, Tryz.ntmps50
  go_wp2_with fail
  go_loopg [8] n (fun kx v8 wr => ∃ (i : Nat), v8 = .int .i64 i ∧ i ≤ n ∧ n - i ≤ kx ∧ Hid (∀ j (hj : j < l.length), j < i → setP D l[j] = false) ∧ Hid (wr = w))
  case atStart => exact ⟨0, rfl, by omega, Nat.le_refl _, (fun _ _ h => by omega), rfl⟩
  case round =>
    obtain ⟨i, rfl, hi, hkx, HR, HW⟩ := hrel
    obtain rfl := HW.out
    by_cases hlt : i < n
    · have hltz : (i : Int) < (n : Int) := by omega
      have hil : i < l.length := by have := HN.out; omega
      obtain ⟨b, off, rfl, hc⟩ := HC.out (by omega)
      have hci := hc i l[i].1 (by rw [List.getElem?_map, List.getElem?_eq_getElem hil]; rfl)
      have kC := setClo_any wr B D l[i] (HH.out.ok _ (List.getElem_mem hil)) hD hB
      obtain ⟨a5, n5, c5, h5⟩ := (HH.out.ok _ (List.getElem_mem hil)).sl
      rw [h5] at hci kC
      obtain ⟨p, hp⟩ : ∃ p, p = setP D l[i] := ⟨_, rfl⟩
      rw [← hp] at kC
      have HP : Hid _ := hp
      clear hp hc h5
      cases p with
      | true =>
        have HF : Hid (idxL (setP D) l = i) := idxL_hit hil (fun j hj => HR.out j (by omega) hj) HP.out.symm
        go_wp2_with fail
        refine kC.mono ?_
        rintro e w1 ⟨rfl, rfl⟩
        go_wp2_with fail
        go_ret
        exact ⟨by rw [HF.out]; rfl, rfl⟩
      | false =>
        go_wp2_with fail
        refine kC.mono ?_
        rintro e w1 ⟨rfl, rfl⟩
        go_wp2_with fail
        go_roundg (n - (i + 1))
        case measure => omega
        case rel => exact ⟨i + 1, by go_num, by omega, Nat.le_refl _, (fun j hj h => by rcases Nat.lt_or_eq_of_le (Nat.le_of_lt_succ h) with h | rfl; exact HR.out j hj h; exact HP.out.symm), rfl⟩
    · have hltz : ¬ (i : Int) < (n : Int) := by omega
      have HF : Hid (idxL (setP D) l = -1) := idxL_none fun j hj => HR.out j hj (by have := HN.out; omega)
      go_wp2_with fail
      go_ret
      exact ⟨by rw [HF.out]; rfl, rfl⟩
def wset (D : Int) (l : List St) : Int := if l.length < 1 ∨ 64 < l.length then 0 else idxL (setP D) l
set_option maxHeartbeats 1600000 in
theorem wrongSet_any (w : World) (D M : Int) (v : Value) (l : List St) (h : RdsS w v l) (hD : D ≤ 9223372036854775807) :
    Calls Tryz.prog 37 #[.agg #[.int .i64 D, .int .i64 M], v] w fun e w' => e = .returned (.int .i64 (wset D l)) ∧ Grows w w' := by
  obtain ⟨W, hW⟩ : ∃ W, W = w.alloc (.cells #[.int .i64 D, .int .i64 M] 23) := ⟨_, rfl⟩
  have gW : Grows w W := by rw [hW]; exact Grows.alloc _ _
  have hB : W.cell? ⟨w.heap.size, 0, none⟩ = some (.int .i64 D) := by rw [hW]; simp
  have k := setIdx_any W w.heap.size D v l (h.below gW.below) hD hB
  obtain ⟨ao, n, cap, rfl⟩ := h.sl
  obtain ⟨e0, -, e2, e3, -, -⟩ := h.r.cells (by decide)
  unfold maxLen at e3
  rw [hW] at k
  unfold wset
  subst e0
  generalize idxL (setP D) l = r at *
  clear h hB hW gW
  by_cases h1 : l.length < 1
  · have h1z : (l.length : Int) < 1 := by omega
    rw [if_pos (.inl h1)]
    generalize l.length = n at *
    go_enter Tryz.func37, Tryz.ntmps37
    go_wp2_with fail
    go_ret
    exact ⟨rfl, Grows.alloc _ _⟩
  · have h1z : ¬ (l.length : Int) < 1 := by omega
    by_cases h2 : 64 < l.length
    · have h2z : (64 : Int) < (l.length : Int) := by omega
      rw [if_pos (.inr h2)]
      generalize l.length = n at *
      go_enter Tryz.func37, Tryz.ntmps37
      go_wp2_with fail
      go_ret
      exact ⟨rfl, Grows.alloc _ _⟩
    · have h2z : ¬ (64 : Int) < (l.length : Int) := by omega
      rw [if_neg (fun h => h.elim h1 h2)]
      generalize l.length = n at *
      go_enter Tryz.func37, Tryz.ntmps37
      go_wp2_with fail
      refine k.mono ?_
      rintro e w1 ⟨rfl, rfl⟩
      go_wp2_with fail
      go_ret
      exact ⟨rfl, Grows.alloc _ _⟩
/-- Aggregators. -/
def aggP (D M : Int) (a : Int × Int) : Bool := !Ag.fitv D M a.1 a.2
set_option maxHeartbeats 1600000 in
theorem aggClo_any (w : World) (B : Nat) (D M : Int) (a : Int × Int) (hB : w.cell? ⟨B, 0, none⟩ = some (.int .i64 D) ∧ w.cell? ⟨B, 1, none⟩ = some (.int .i64 M)) :
    Calls Tryz.prog 54 #[.agg #[.int .i64 a.1, .int .i64 a.2], .pointer (some ⟨B, 0, none⟩)] w fun e w' => e = .returned (.bool (aggP D M a)) ∧ Grows w w' := by
  obtain ⟨x, y⟩ := a
  obtain ⟨W, hW⟩ : ∃ W, W = (w.alloc (.cells #[.int .i64 x, .int .i64 y] 67)).alloc (.cells #[.int .i64 x, .int .i64 y] 67) := ⟨_, rfl⟩
  have gW : Grows w W := by rw [hW]; exact (Grows.alloc _ _).trans (Grows.alloc _ _)
  have hr : Ag.RdsK 2 W (.slice (some ⟨w.heap.size + 1, 0, none⟩) 1 1) 1 (Ag.av [(x, y)]) := by
    refine ⟨some ⟨w.heap.size + 1, 0, none⟩, 1, rfl, rfl, Nat.le_refl _, by decide, (fun h => by cases h), fun ad ha j u hj => ?_⟩
    cases ha
    rw [hW]
    rcases j with _ | _ | j
    · simp [Ag.av] at hj; subst hj; simp [Addr.add]
    · simp [Ag.av] at hj; subst hj; simp [Addr.add]
    · simp [Ag.av] at hj
  have k := Ag.check_any W D M _ [(x, y)] hr
  have hv : Ag.errB (decide ([(x, y)].length ≤ 16) && Ag.fitsL D M [(x, y)]) = if aggP D M (x, y) then 1 else 0 := by
    unfold Ag.errB Ag.fitsL aggP
    cases h : Ag.fitv D M x y <;> simp [h]
  rw [hv] at k
  have b0 := cell_grow hB.1 (.cells #[.int .i64 x, .int .i64 y] 67)
  have b1 := cell_grow hB.2 (.cells #[.int .i64 x, .int .i64 y] 67)
  rw [hW] at k
  have HW : Hid _ := hW
  have HG : Hid (Grows w W) := gW
  clear hr hv hW gW hB
  simp only
  generalize aggP D M (x, y) = p at *
  cases p
  all_goals
    simp only [if_true, if_false, Bool.false_eq_true] at k
    go_enter Tryz.func54, Tryz.ntmps54
    go_wp2_with fail
    refine k.mono ?_
    rintro e w1 ⟨rfl, g1⟩
    rw [← HW.out] at g1
    have HG1 : Hid (Grows w w1) := Grows.trans HG.out g1
    clear g1
    go_wp2_with fail
    go_ret
    exact ⟨rfl, HG1.out⟩
end Go.Proofs.YtiiihjihegilnaaGreatDoor
