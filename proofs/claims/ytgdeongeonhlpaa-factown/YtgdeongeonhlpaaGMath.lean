/- Rows in order, put together group by group: the bag. No walk stands here. -/
import Derived.Test.YtgdeongeonhlpaaSmall
namespace Go.Proofs.Ytgdeongeonhlpaa
open Go.Sort

/-- Rows up to F put together. -/
structure Grp (rs : List Row) (F : Nat) (out : List Row) : Prop where
  ris : out.Pairwise fun x y => cmpF x.1 y.1 < 0
  few : ∀ r ∈ out, 0 < r.2 ∧ r.2 < two64
  cnt : ∀ f, cntR out f % two64 = cntR (rs.take F) f % two64
  ahead : ∀ r ∈ out, ∀ j (h : j < rs.length), F ≤ j → cmpF r.1 rs[j].1 < 0
theorem Grp.nil (rs : List Row) : Grp rs 0 [] := ⟨List.Pairwise.nil, (fun _ h => by cases h), (fun f => by simp), (fun _ h => by cases h)⟩
theorem Grp.done {rs out : List Row} (h : Grp rs rs.length out) : IsBag rs out := ⟨⟨h.ris, h.few⟩, fun f => by rw [h.cnt, List.take_length]⟩
theorem take_split (rs : List Row) {F T : Nat} (h : F ≤ T) : rs.take T = rs.take F ++ (rs.take T).drop F := by
  have := List.take_append_drop F (rs.take T)
  rw [List.take_take, Nat.min_eq_left h] at this
  exact this.symm
theorem mem_part {rs : List Row} {F T : Nat} {r : Row} (h : r ∈ (rs.take T).drop F) : ∃ j, ∃ hj : j < rs.length, F ≤ j ∧ j < T ∧ rs[j] = r := by
  obtain ⟨i, hi, e⟩ := List.getElem_of_mem h
  simp only [List.length_drop, List.length_take] at hi
  refine ⟨F + i, by omega, by omega, by omega, ?_⟩
  rw [← e, List.getElem_drop, List.getElem_take]
theorem lt_of_le_ne {a b : Ft} (h : ¬ cmpF b a < 0) (k : b ≠ a) : cmpF a b < 0 := by
  have := cmpF_ord.anti a b
  have h0 : cmpF b a ≠ 0 := fun e => k ((cmpF_ord.eq _ _).1 e)
  omega
theorem lt_of_lt_le {a b c : Ft} (h : cmpF a b < 0) (k : ¬ cmpF c b < 0) : cmpF a c < 0 := by
  by_cases e : c = b
  · rw [e]; exact h
  · exact cmpF_ord.tr _ _ _ h (lt_of_le_ne k e)
theorem Grp.step {rs out : List Row} {F T : Nat} (hs : rs.Pairwise fun x y => ¬ cmpF y.1 x.1 < 0) (h : Grp rs F out) (hF : F < rs.length) (hFT : F < T) (hT : T ≤ rs.length)
    (al : ∀ j (h : j < rs.length), F ≤ j → j < T → rs[j].1 = rs[F].1) (ne : ∀ h : T < rs.length, rs[T].1 ≠ rs[F].1) :
    Grp rs T (if totM ((rs.take T).drop F) = 0 then out else out ++ [(rs[F].1, totM ((rs.take T).drop F))]) := by
  have hg := List.pairwise_iff_getElem.1 hs
  have hnew : ∀ j (hj : j < rs.length), T ≤ j → cmpF rs[F].1 rs[j].1 < 0 := fun j hj hTj => by
    have hTl : T < rs.length := by omega
    have h1 : cmpF rs[F].1 rs[T].1 < 0 := lt_of_le_ne (hg F T hF hTl hFT) (ne hTl)
    rcases Nat.lt_or_eq_of_le hTj with h2 | h2
    · exact lt_of_lt_le h1 (hg T j hTl hj h2)
    · subst h2; exact h1
  have hpart : ∀ f, cntR ((rs.take T).drop F) f = if rs[F].1 = f then totR ((rs.take T).drop F) else 0 := fun f => by
    by_cases e : rs[F].1 = f
    · rw [if_pos e]
      refine cntR_all fun r hr => ?_
      obtain ⟨j, hj, h1, h2, rfl⟩ := mem_part hr
      rw [al j hj h1 h2]; exact e
    · rw [if_neg e]
      refine cntR_none fun r hr => ?_
      obtain ⟨j, hj, h1, h2, rfl⟩ := mem_part hr
      rw [al j hj h1 h2]; exact e
  have hcnt : ∀ f, cntR (rs.take T) f = cntR (rs.take F) f + cntR ((rs.take T).drop F) f := fun f => by
    rw [← cntR_app, ← take_split rs (by omega)]
  by_cases hz : totM ((rs.take T).drop F) = 0
  · rw [if_pos hz]
    refine ⟨h.ris, h.few, fun f => ?_, fun r hr j hj hTj => h.ahead r hr j hj (by omega)⟩
    rw [hcnt, Nat.add_mod, ← h.cnt, hpart]
    by_cases e : rs[F].1 = f
    · rw [if_pos e]
      have : totR ((rs.take T).drop F) % two64 = 0 := hz
      rw [this]; simp
    · rw [if_neg e]; simp
  · rw [if_neg hz]
    refine ⟨List.pairwise_append.2 ⟨h.ris, by simp, fun a ha b hb => ?_⟩, fun r hr => ?_, fun f => ?_, fun r hr j hj hTj => ?_⟩
    · simp only [List.mem_singleton] at hb
      subst hb
      exact h.ahead a ha F hF (Nat.le_refl _)
    · rcases List.mem_append.1 hr with hr | hr
      · exact h.few r hr
      · simp only [List.mem_singleton] at hr
        subst hr
        exact ⟨Nat.pos_of_ne_zero hz, Nat.mod_lt _ (by decide)⟩
    · rw [cntR_app, hcnt, Nat.add_mod, h.cnt, Nat.add_mod (cntR (rs.take F) f), hpart]
      congr 2
      simp only [cntR_cons, cntR_nil, Nat.add_zero]
      by_cases e : rs[F].1 = f
      · rw [if_pos e, if_pos e]
        unfold totM
        rw [Nat.mod_mod]
      · rw [if_neg e, if_neg e]
    · rcases List.mem_append.1 hr with hr | hr
      · exact h.ahead r hr j hj (by omega)
      · simp only [List.mem_singleton] at hr
        subst hr
        exact hnew j hj hTj
theorem rows_length (l : List En) : (rows l).length = l.length := by simp [rows]
theorem rows_get (l : List En) (i : Nat) (h : i < (rows l).length) : (rows l)[i].1 = (l.getD i en0).f.ft := by
  have h' : i < l.length := by simpa [rows] using h
  rw [getD_en l i h']
  simp [rows, En.row]
theorem rows_part (l : List En) (F T : Nat) : rows ((l.take T).drop F) = ((rows l).take T).drop F := by simp [rows, List.map_drop, List.map_take]
theorem srt_rows {l : List En} (h : Srt l) : (rows l).Pairwise fun x y => ¬ cmpF y.1 x.1 < 0 := by
  unfold rows
  rw [List.pairwise_map]
  exact h
theorem perm_rows {l m : List En} (h : l.Perm m) : (rows l).Perm (rows m) := h.map _

/-- A row of rows that is new memory. -/
structure OwnM (w : World) (base : Nat) (v : Value) (l : List En) : Prop where
  own : w.ownsRow base 46 4 v l.length (ev l)
  each : ∀ e ∈ l, e.f.Own w base
  few : ∀ e ∈ l, e.n < two64
theorem OwnM.ok {w : World} {base : Nat} {v : Value} {l : List En} (h : OwnM w base v l) : RdsM w v l := ⟨RdsK.of_own h.own, fun e he => ⟨(h.each e he).ok, h.few e he⟩⟩
theorem OwnM.below {w w' : World} {base : Nat} {v : Value} {l : List En} (h : OwnM w base v l) (hb : Go.RowKit.Below w.heap.size w w') : OwnM w' base v l := ⟨own_below h.own hb, fun e he => (h.each e he).below hb, h.few⟩
theorem OwnM.mono {w : World} {base base' : Nat} {v : Value} {l : List En} (h : OwnM w base v l) (hb : base' ≤ base) : OwnM w base' v l := ⟨own_mono h.own hb, fun e he => (h.each e he).mono hb, h.few⟩
/-- A part of a row that reads so. -/
theorem RdsM.part {w : World} {b off n cap : Nat} {l : List En} (h : RdsM w (.slice (some ⟨b, off, none⟩) n cap) l) {F T : Nat} (h1 : F ≤ T) (h2 : T ≤ l.length) : RdsM w (.slice (some ⟨b, off + F * 4, none⟩) (T - F) (cap - F)) ((l.take T).drop F) := by
  obtain ⟨rfl, k0, k1, k2, k3, k4⟩ := h.r.cells (by decide)
  have hl : ((l.take T).drop F).length = T - F := by simp; omega
  refine ⟨?_, fun e he => h.ok e (List.mem_of_mem_take (List.mem_of_mem_drop he))⟩
  rw [hl]
  refine ⟨some ⟨b, off + F * 4, none⟩, cap - F, rfl, by rw [ev_length, hl], by omega, by omega, (fun h => by cases h), ?_⟩
  rintro ad ⟨rfl⟩ j u hj
  rw [Addr.add_lit]
  have hj2 : j < (T - F) * 4 := by
    have := (List.getElem?_eq_some_iff.1 hj).1
    rw [ev_length, hl] at this
    exact this
  obtain ⟨b', off', e, hc⟩ := k3 (by omega)
  simp only [Option.some.injEq, Addr.mk.injEq, and_true] at e
  obtain ⟨rfl, rfl⟩ := e
  rw [show off + F * 4 + j = off + (F * 4 + j) by omega]
  refine hc _ _ ?_
  have e1 := ev_get ((l.take T).drop F) (j / 4) (j % 4) (by omega) (by omega)
  have e2 := ev_get l (F + j / 4) (j % 4) (by omega) (by omega)
  rw [show j / 4 * 4 + j % 4 = j by omega] at e1
  rw [show (F + j / 4) * 4 + j % 4 = F * 4 + j by omega] at e2
  rw [e2, ← hj, e1, List.getElem_drop, List.getElem_take]
end Go.Proofs.Ytgdeongeonhlpaa
