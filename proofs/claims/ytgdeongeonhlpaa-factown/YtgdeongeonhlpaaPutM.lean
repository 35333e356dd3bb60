/- Rows put into a bag one by one: the plain side. -/
import Derived.Test.YtgdeongeonhlpaaSame
import Derived.Test.YtgdeongeonhlpaaSpan
namespace Go.Proofs.Ytgdeongeonhlpaa
open Go.RowKit Go.Sort

/-- A fact, so often, put into a rising row. -/
def putL : List En → Fc → Nat → List En
  | [], f, n => [⟨f, n⟩]
  | e :: l, f, n => if cmpF e.f.ft f.ft < 0 then e :: putL l f n else if cmpF e.f.ft f.ft = 0 then ⟨f, (e.n + n) % two64⟩ :: l else ⟨f, n⟩ :: e :: l
theorem putL_end : ∀ (l : List En) (f : Fc) (n : Nat), (∀ j, j < l.length → cmpF (l.getD j en0).f.ft f.ft < 0) → putL l f n = l ++ [⟨f, n⟩]
  | [], _, _, _ => rfl
  | e :: l, f, n, h => by
    have h0 := h 0 (by simp)
    simp only [List.getD_cons_zero] at h0
    rw [putL, if_pos h0, putL_end l f n fun j hj => by have := h (j + 1) (by simpa using hj); simpa using this]
    rfl
theorem putL_eq : ∀ (l : List En) (f : Fc) (n k : Nat), k < l.length → (∀ j, j < k → cmpF (l.getD j en0).f.ft f.ft < 0) → cmpF (l.getD k en0).f.ft f.ft = 0 →
    putL l f n = l.take k ++ [⟨f, ((l.getD k en0).n + n) % two64⟩] ++ l.drop (k + 1)
  | e :: l, f, n, 0, _, _, hc => by
    simp only [List.getD_cons_zero] at hc
    rw [putL, if_neg (by omega), if_pos hc]
    rfl
  | e :: l, f, n, k + 1, hk, h, hc => by
    have h0 := h 0 (by omega)
    simp only [List.getD_cons_zero] at h0
    simp only [List.getD_cons_succ] at hc
    rw [putL, if_pos h0, putL_eq l f n k (by simpa using hk) (fun j hj => by have := h (j + 1) (by omega); simpa using this) hc]
    rfl
theorem putL_gt : ∀ (l : List En) (f : Fc) (n k : Nat), k < l.length → (∀ j, j < k → cmpF (l.getD j en0).f.ft f.ft < 0) → ¬ cmpF (l.getD k en0).f.ft f.ft < 0 → cmpF (l.getD k en0).f.ft f.ft ≠ 0 →
    putL l f n = l.take k ++ [⟨f, n⟩] ++ l.drop k
  | e :: l, f, n, 0, _, _, hc, hd => by
    simp only [List.getD_cons_zero] at hc hd
    rw [putL, if_neg hc, if_neg hd]
    rfl
  | e :: l, f, n, k + 1, hk, h, hc, hd => by
    have h0 := h 0 (by omega)
    simp only [List.getD_cons_zero] at h0
    simp only [List.getD_cons_succ] at hc hd
    rw [putL, if_pos h0, putL_gt l f n k (by simpa using hk) (fun j hj => by have := h (j + 1) (by omega); simpa using this) hc hd]
    rfl
theorem putL_len : ∀ (l : List En) (f : Fc) (n : Nat), (putL l f n).length ≤ l.length + 1
  | [], _, _ => by simp [putL]
  | e :: l, f, n => by
    have := putL_len l f n
    rw [putL]
    split
    · simp; omega
    · split <;> simp

def putR : List Row → Row → List Row
  | [], r => [r]
  | e :: l, r => if cmpF e.1 r.1 < 0 then e :: putR l r else if cmpF e.1 r.1 = 0 then (r.1, (e.2 + r.2) % two64) :: l else r :: e :: l
theorem rows_cons (e : En) (l : List En) : rows (e :: l) = e.row :: rows l := rfl
theorem rows_putL : ∀ (l : List En) (f : Fc) (n : Nat), rows (putL l f n) = putR (rows l) (f.ft, n)
  | [], _, _ => rfl
  | e :: l, f, n => by
    rw [putL, rows_cons, putR]
    show _ = if cmpF e.f.ft f.ft < 0 then _ else if cmpF e.f.ft f.ft = 0 then _ else _
    split
    · rw [rows_cons, rows_putL l f n]
    · split <;> rfl
/-- Rows that rise, with numbers that may be, 0 too. -/
structure Rs (b : List Row) : Prop where
  ris : b.Pairwise fun x y => cmpF x.1 y.1 < 0
  lt : ∀ r ∈ b, r.2 < two64
theorem putR_mem : ∀ (l : List Row) (r x : Row), x ∈ putR l r → x.1 = r.1 ∨ x ∈ l
  | [], r, x, h => by simp only [putR, List.mem_singleton] at h; exact .inl (by rw [h])
  | e :: l, r, x, h => by
    rw [putR] at h
    split at h
    · rcases List.mem_cons.1 h with h | h
      · exact .inr (by rw [h]; simp)
      · rcases putR_mem l r x h with h | h
        · exact .inl h
        · exact .inr (by simp [h])
    · split at h
      · rcases List.mem_cons.1 h with h | h
        · exact .inl (by rw [h])
        · exact .inr (by simp [h])
      · rcases List.mem_cons.1 h with h | h
        · exact .inl (by rw [h])
        · exact .inr h
theorem putR_lt : ∀ (l : List Row) (r : Row), (∀ x ∈ l, x.2 < two64) → r.2 < two64 → ∀ x ∈ putR l r, x.2 < two64
  | [], r, _, hr, x, h => by simp only [putR, List.mem_singleton] at h; rw [h]; exact hr
  | e :: l, r, hl, hr, x, h => by
    rw [putR] at h
    split at h
    · rcases List.mem_cons.1 h with h | h
      · exact hl x (by rw [h]; simp)
      · exact putR_lt l r (fun y hy => hl y (by simp [hy])) hr x h
    · split at h
      · rcases List.mem_cons.1 h with h | h
        · rw [h]; exact Nat.mod_lt _ (by decide)
        · exact hl x (by simp [h])
      · rcases List.mem_cons.1 h with h | h
        · rw [h]; exact hr
        · exact hl x h
theorem putR_ris : ∀ (l : List Row) (r : Row), (l.Pairwise fun x y => cmpF x.1 y.1 < 0) → (putR l r).Pairwise fun x y => cmpF x.1 y.1 < 0
  | [], r, _ => by simp [putR]
  | e :: l, r, h => by
    obtain ⟨h1, h2⟩ := List.pairwise_cons.1 h
    rw [putR]
    split
    case isTrue hlt =>
      refine List.pairwise_cons.2 ⟨fun x hx => ?_, putR_ris l r h2⟩
      rcases putR_mem l r x hx with h | h
      · rw [h]; exact hlt
      · exact h1 x h
    case isFalse hlt =>
      split
      case isTrue heq =>
        have he : e.1 = r.1 := (cmpF_ord.eq _ _).1 heq
        refine List.pairwise_cons.2 ⟨fun x hx => ?_, h2⟩
        show cmpF r.1 x.1 < 0
        rw [← he]; exact h1 x hx
      case isFalse hne =>
        have hgt : cmpF r.1 e.1 < 0 := by
          apply Classical.byContradiction
          intro hn
          exact hne ((cmpF_ord.eq _ _).2 (cmpF_ord.pos hlt hn))
        refine List.pairwise_cons.2 ⟨fun x hx => ?_, h⟩
        rcases List.mem_cons.1 hx with h | h
        · rw [h]; exact hgt
        · exact cmpF_ord.tr _ _ _ hgt (h1 x h)
theorem Rs.put {l : List Row} {r : Row} (h : Rs l) (hr : r.2 < two64) : Rs (putR l r) := ⟨putR_ris l r h.ris, putR_lt l r h.lt hr⟩
theorem putR_cnt : ∀ (l : List Row) (r : Row) (g : Ft), cntR (putR l r) g % two64 = (cntR l g + (if r.1 = g then r.2 else 0)) % two64
  | [], r, g => by simp [putR, cntR]
  | e :: l, r, g => by
    rw [putR]
    split
    · have ih := putR_cnt l r g
      rw [cntR_cons, cntR_cons, Nat.add_mod, ih, ← Nat.add_mod, Nat.add_assoc]
    · split
      case isTrue heq =>
        have he : e.1 = r.1 := (cmpF_ord.eq _ _).1 heq
        rw [cntR_cons, cntR_cons, he]
        show ((if r.1 = g then (e.2 + r.2) % two64 else 0) + _) % two64 = _
        by_cases hg : r.1 = g
        · rw [if_pos hg, if_pos hg, if_pos hg, Nat.mod_add_mod]; congr 1; omega
        · rw [if_neg hg, if_neg hg, if_neg hg]; congr 1
      · rw [cntR_cons]; congr 1; omega
theorem fold_put : ∀ (rs : List Row) (b : List Row), Rs b → (∀ r ∈ rs, r.2 < two64) → Rs (rs.foldl putR b) ∧ ∀ g, cntR (rs.foldl putR b) g % two64 = (cntR b g + cntR rs g) % two64
  | [], b, hb, _ => ⟨hb, fun g => by simp [cntR]⟩
  | r :: rs, b, hb, h => by
    obtain ⟨h1, h2⟩ := fold_put rs (putR b r) (hb.put (h r (by simp))) fun x hx => h x (by simp [hx])
    refine ⟨h1, fun g => ?_⟩
    rw [List.foldl_cons, h2 g, Nat.add_mod, putR_cnt, ← Nat.add_mod, cntR_cons, Nat.add_assoc]
theorem cntR_filter (p : Row → Bool) (q : Ft → Bool) (b : List Row) (g : Ft) (h : ∀ r ∈ b, r.1 = g → (p r = q g ∨ r.2 = 0)) : cntR (b.filter p) g = if q g then cntR b g else 0 := by
  induction b with
  | nil => simp [cntR]
  | cons r b ih =>
    have ih := ih fun x hx => h x (by simp [hx])
    rw [List.filter_cons]
    by_cases hg : r.1 = g
    · rcases h r (by simp) hg with h1 | h1
      · rw [h1]
        cases hq : q g
        · rw [hq] at ih; simp only [Bool.false_eq_true, if_false] at ih ⊢; exact ih
        · rw [hq] at ih; simp only [if_true] at ih ⊢; rw [cntR_cons, cntR_cons, ih]
      · cases hp : p r
        · simp only [Bool.false_eq_true, if_false]; rw [ih, cntR_cons, if_pos hg, h1, Nat.zero_add]
        · simp only [if_true]; rw [cntR_cons, ih, cntR_cons, if_pos hg, h1, Nat.zero_add, Nat.zero_add]
    · cases hp : p r
      · simp only [Bool.false_eq_true, if_false]; rw [ih, cntR_cons, if_neg hg, Nat.zero_add]
      · simp only [if_true]; rw [cntR_cons, ih, cntR_cons, if_neg hg, Nat.zero_add, Nat.zero_add]

/-- The rows, put one by one. -/
def putAll (l : List En) : List En := l.foldl (fun b e => putL b e.f e.n) []
theorem rows_foldl : ∀ (l : List En) (b : List En), rows (l.foldl (fun b e => putL b e.f e.n) b) = (rows l).foldl putR (rows b)
  | [], _ => rfl
  | e :: l, b => by rw [List.foldl_cons, rows_foldl l, rows_putL]; rfl
theorem foldl_len : ∀ (l b : List En), (l.foldl (fun b e => putL b e.f e.n) b).length ≤ b.length + l.length
  | [], _ => by simp
  | e :: l, b => by
    have h1 := foldl_len l (putL b e.f e.n)
    have h2 := putL_len b e.f e.n
    rw [List.foldl_cons, List.length_cons]; omega
def ownL (l : List En) : List En := (putAll l).filter fun e => decide (e.n ≠ 0)
theorem ownL_len (l : List En) : (ownL l).length ≤ l.length := by
  have h1 := foldl_len l []
  have h2 := List.length_filter_le (fun e : En => decide (e.n ≠ 0)) (putAll l)
  unfold ownL putAll at *
  simp at h1
  omega
theorem rows_filter (q : Row → Bool) : ∀ l : List En, rows (l.filter fun e => q e.row) = (rows l).filter q
  | [] => rfl
  | e :: l => by
    rw [List.filter_cons, rows_cons, List.filter_cons]
    split
    · rw [rows_cons, rows_filter q l]
    · exact rows_filter q l
theorem Rs.bag {b : List Row} (h : Rs b) : IsBag b (b.filter fun r => decide (r.2 ≠ 0)) := by
  refine ⟨⟨h.ris.filter _, fun r hr => ?_⟩, fun g => ?_⟩
  · obtain ⟨h1, h2⟩ := List.mem_filter.1 hr
    have := of_decide_eq_true h2
    exact ⟨by omega, h.lt r h1⟩
  · rw [cntR_filter _ (fun _ => true) b g fun r _ _ => ?_]
    · rfl
    · by_cases hz : r.2 = 0
      · exact .inr hz
      · exact .inl (by simp [hz])
theorem ownL_bag (l : List En) (h : ∀ e ∈ l, e.n < two64) : IsBag (rows l) (rows (ownL l)) := by
  obtain ⟨h1, h2⟩ := fold_put (rows l) [] ⟨List.Pairwise.nil, fun _ h => by cases h⟩ fun r hr => by
    obtain ⟨e, he, rfl⟩ := List.mem_map.1 hr
    exact h e he
  have h3 : rows (ownL l) = ((rows l).foldl putR []).filter fun r => decide (r.2 ≠ 0) := by
    unfold ownL
    have := rows_filter (fun r => decide (r.2 ≠ 0)) (putAll l)
    rw [show rows (putAll l) = (rows l).foldl putR [] from rows_foldl l []] at this
    exact this
  rw [h3]
  exact h1.bag.ext fun f => by rw [h2 f, cntR_nil, Nat.zero_add]
/-- Those of a span, or the others. -/
def inL (F T : Int) (b : Bool) (l : List En) : List En := (ownL l).filter fun e => inS F T e.f.t == b
theorem inL_bag (F T : Int) (b : Bool) (l : List En) (h : ∀ e ∈ l, e.n < two64) : IsBag (rows (l.filter fun e => inS F T e.f.t == b)) (rows (inL F T b l)) := by
  have hb := ownL_bag l h
  have e1 : rows (inL F T b l) = (rows (ownL l)).filter fun r => inS F T r.1.t == b := rows_filter (fun r => inS F T r.1.t == b) (ownL l)
  have e2 : rows (l.filter fun e => inS F T e.f.t == b) = (rows l).filter fun r => inS F T r.1.t == b := rows_filter (fun r => inS F T r.1.t == b) l
  rw [e1, e2]
  refine ⟨⟨hb.bg.ris.filter _, fun r hr => hb.bg.few r (List.mem_filter.1 hr).1⟩, fun g => ?_⟩
  rw [cntR_filter _ (fun f => inS F T f.t == b) _ g fun r _ hr => .inl (by rw [hr]), cntR_filter _ (fun f => inS F T f.t == b) _ g fun r _ hr => .inl (by rw [hr])]
  split
  · exact hb.cnt g
  · rfl
/-- Facts, put one by one. -/
def bagL (l : List Fc) : List En := l.foldl (fun b f => putL b f 1) []
theorem bagL_all (l : List Fc) : bagL l = putAll (l.map fun f => ⟨f, 1⟩) := by
  unfold bagL putAll
  rw [List.foldl_map]
theorem bagL_len (l : List Fc) : (bagL l).length ≤ l.length := by
  have := foldl_len (l.map fun f => ⟨f, 1⟩) []
  rw [bagL_all]; simpa [putAll] using this
theorem putR_few : ∀ (l : List Row) (f : Ft) (M : Nat), M + 1 < two64 → (∀ x ∈ l, 0 < x.2 ∧ x.2 ≤ M) → ∀ x ∈ putR l (f, 1), 0 < x.2 ∧ x.2 ≤ M + 1
  | [], f, M, _, _, x, h => by simp only [putR, List.mem_singleton] at h; rw [h]; exact ⟨Nat.one_pos, by show 1 ≤ M + 1; omega⟩
  | e :: l, f, M, hM, hl, x, h => by
    have he := hl e (by simp)
    rw [putR] at h
    split at h
    · rcases List.mem_cons.1 h with h | h
      · rw [h]; omega
      · exact putR_few l f M hM (fun y hy => hl y (by simp [hy])) x h
    · split at h
      · rcases List.mem_cons.1 h with h | h
        · rw [h]
          show 0 < (e.2 + 1) % two64 ∧ (e.2 + 1) % two64 ≤ M + 1
          rw [Nat.mod_eq_of_lt (by omega)]
          omega
        · have := hl x (by simp [h]); omega
      · rcases List.mem_cons.1 h with h | h
        · rw [h]; exact ⟨Nat.one_pos, by show 1 ≤ M + 1; omega⟩
        · have := hl x h; omega
theorem fold_few : ∀ (rs : List Row) (b : List Row) (M : Nat), M + rs.length < two64 → (∀ r ∈ rs, r.2 = 1) → (∀ x ∈ b, 0 < x.2 ∧ x.2 ≤ M) → ∀ x ∈ rs.foldl putR b, 0 < x.2
  | [], b, M, _, _, hb, x, h => (hb x h).1
  | r :: rs, b, M, hM, hr, hb, x, h => by
    rw [List.length_cons] at hM
    have hr1 := hr r (by simp)
    obtain ⟨f, n⟩ := r
    simp only at hr1
    subst hr1
    exact fold_few rs (putR b (f, 1)) (M + 1) (by omega) (fun y hy => hr y (by simp [hy])) (putR_few b f M (by omega) hb) x h
theorem bagL_bag (l : List Fc) (h : l.length < 1000) : IsBag (ones l) (rows (bagL l)) := by
  have hr : rows (l.map fun f => (⟨f, 1⟩ : En)) = ones l := by simp [rows, ones, En.row]
  have h1 : ∀ r ∈ ones l, r.2 = 1 := fun r hr => by
    obtain ⟨e, he, rfl⟩ := List.mem_map.1 hr
    rfl
  obtain ⟨k1, k2⟩ := fold_put (ones l) [] ⟨List.Pairwise.nil, fun _ h => by cases h⟩ fun r hr => by rw [h1 r hr]; decide
  have k3 := fold_few (ones l) [] 0 (by simp [ones]; unfold two64; omega) h1 (fun _ h => by cases h)
  have e : rows (bagL l) = (ones l).foldl putR [] := by
    rw [bagL_all, putAll, rows_foldl, hr]; rfl
  rw [e]
  exact ⟨⟨k1.ris, fun r hr => ⟨k3 r hr, k1.lt r hr⟩⟩, fun f => by rw [k2 f, cntR_nil, Nat.zero_add]⟩
end Go.Proofs.Ytgdeongeonhlpaa
