/- The contract of Bag. -/
import Derived.Test.YtgdeongeonhlpaaBag
namespace Go.Proofs.Ytgdeongeonhlpaa
open Go.RowKit Go.Sort

theorem ev_cons (a : En) (l : List En) : ev (a :: l) = a.cells ++ ev l := by simp [ev]
theorem ev_set : ∀ (l : List En) (i : Nat) (e : En), i < l.length → ev (l.set i e) = ((((ev l).set (i * 4) (.int .i64 e.f.t)).set (i * 4 + 1) e.f.dv).set (i * 4 + 2) e.f.mv).set (i * 4 + 3) (.int .u64 e.n)
  | a :: l, 0, e, _ => by
    rw [List.set_cons_zero, ev_cons, ev_cons]
    simp [En.cells]
  | a :: l, i + 1, e, h => by
    have ih := ev_set l i e (by simpa using h)
    rw [List.set_cons_succ, ev_cons, ev_cons, ih]
    have g : ∀ (c : Nat) (u : Value) (xs : List Value), (a.cells ++ xs).set ((i + 1) * 4 + c) u = a.cells ++ xs.set (i * 4 + c) u := fun c u xs => by
      rw [List.set_append_right _ _ (by simp [En.cells]; omega)]
      congr 2
      simp [En.cells]
      omega
    have g0 := g 0
    simp only [Nat.add_zero] at g0
    rw [g0, g 1, g 2, g 3]
theorem made_ev (n : Nat) : (madeCells (Value.agg #[.int .i64 0, .slice none 0 0, .slice none 0 0, .int .u64 0]).cells (n * 4)).toList = ev (List.replicate n en0) := by
  apply List.ext_getElem?
  intro j
  by_cases hj : j < n * 4
  · have h1 : j / 4 < (List.replicate n en0).length := by simp; omega
    have e := ev_get (List.replicate n en0) (j / 4) (j % 4) h1 (by omega)
    rw [show j / 4 * 4 + j % 4 = j by omega] at e
    rw [e]
    have h4 : j % 4 = 0 ∨ j % 4 = 1 ∨ j % 4 = 2 ∨ j % 4 = 3 := by omega
    rcases h4 with h | h | h | h <;> simp [madeCells, hj, h, en0, En.cells, Value.cells]
  · rw [List.getElem?_eq_none (by simp [madeCells]; omega), List.getElem?_eq_none (by rw [ev_length]; simp; omega)]
/-- The first i facts, once each, and nothing yet for the others. -/
def mixF (l : List Fc) (i : Nat) : List En := (l.take i).map (fun f => ⟨f, 1⟩) ++ List.replicate (l.length - i) en0
theorem mixF_length (l : List Fc) (i : Nat) (h : i ≤ l.length) : (mixF l i).length = l.length := by simp [mixF]; omega
theorem mixF_set (l : List Fc) (i : Nat) (h : i < l.length) : (mixF l i).set i ⟨l[i], 1⟩ = mixF l (i + 1) := by
  unfold mixF
  rw [List.set_append_right _ _ (by simp; omega), List.take_succ_eq_append_getElem h, List.map_append, List.append_assoc]
  congr 1
  have e : l.length - i = (l.length - (i + 1)) + 1 := by omega
  rw [e, List.replicate_succ, show i - ((l.take i).map fun f => (⟨f, 1⟩ : En)).length = 0 by simp; omega]
  rfl
theorem mixF_all (l : List Fc) : mixF l l.length = l.map (fun f => ⟨f, 1⟩) := by simp [mixF]

/-- Where the cells of one fact lie. -/
theorem RdsF.at {w : World} {ao : Option Addr} {n cap : Nat} {l : List Fc} (h : RdsF w (.slice ao n cap) l) (h0 : 0 < l.length) :
    ∃ b off, ao = some ⟨b, off, none⟩ ∧ ∀ i (hi : i < l.length),
      w.cell? ⟨b, off + i * 3, none⟩ = some (.int .i64 l[i].t) ∧ w.cell? ⟨b, off + i * 3 + 1, none⟩ = some l[i].dv ∧ w.cell? ⟨b, off + i * 3 + 2, none⟩ = some l[i].mv := by
  obtain ⟨rfl, k0, k1, k2, k3, k4⟩ := h.r.cells (by decide)
  obtain ⟨b, off, rfl, hc⟩ := k3 h0
  refine ⟨b, off, rfl, fun i hi => ?_⟩
  have g : ∀ c, c < 3 → (fv l)[i * 3 + c]? = (l[i].cells)[c]? := fun c hc => fv_get l i c hi hc
  refine ⟨?_, ?_, ?_⟩
  · exact hc (i * 3) _ (by have := g 0 (by omega); simpa [Fc.cells] using this)
  · rw [Nat.add_assoc]; exact hc (i * 3 + 1) _ (by have := g 1 (by omega); simpa [Fc.cells] using this)
  · rw [Nat.add_assoc]; exact hc (i * 3 + 2) _ (by have := g 2 (by omega); simpa [Fc.cells] using this)
theorem RdsF.len {w : World} {ao : Option Addr} {n cap : Nat} {l : List Fc} (h : RdsF w (.slice ao n cap) l) : n = l.length ∧ n ≤ cap ∧ cap ≤ maxLen := by
  obtain ⟨rfl, k0, k1, k2, k3, k4⟩ := h.r.cells (by decide)
  exact ⟨rfl, k1, k2⟩
theorem RdsF.sl {w : World} {v : Value} {l : List Fc} (h : RdsF w v l) : ∃ ao n cap, v = .slice ao n cap := by obtain ⟨ao, cap, rfl, _⟩ := h.r; exact ⟨_, _, _, rfl⟩
/-- Facts, once each. -/
def ones (l : List Fc) : List Row := l.map fun f => (f.ft, 1)
theorem stored4 {w : World} {base g n cap : Nat} {xs : List Value} (h : w.ownsRow base 46 4 (.slice (some ⟨g, 0, none⟩) n cap) n xs) (o : Nat) (a b c d : Value) :
    ((((w.setCell ⟨g, o, none⟩ a).setCell ⟨g, o + 1, none⟩ b).setCell ⟨g, o + 2, none⟩ c).setCell ⟨g, o + 3, none⟩ d).ownsRow base 46 4 (.slice (some ⟨g, 0, none⟩) n cap) n ((((xs.set o a).set (o + 1) b).set (o + 2) c).set (o + 3) d) ∧
    w.grownBy ((((w.setCell ⟨g, o, none⟩ a).setCell ⟨g, o + 1, none⟩ b).setCell ⟨g, o + 2, none⟩ c).setCell ⟨g, o + 3, none⟩ d) (some g) := by
  have h1 := h.stored o a
  have h2 := h1.1.stored (o + 1) b
  have h3 := h2.1.stored (o + 2) c
  have h4 := h3.1.stored (o + 3) d
  exact ⟨h4.1, grown_trans (grown_trans (grown_trans h1.2 h2.2) h3.2) h4.2⟩

set_option maxHeartbeats 4000000 in
theorem bag_any (w : World) (v : Value) (l : List Fc) (h : RdsF w v l) (hbig : l.length * 64 ≤ 160842843834660) :
    Calls Try.prog 17 #[v] w fun e w' => ∃ v', e = .returned v' ∧ ∃ l', OwnM w' w.heap.size v' l' ∧ l'.length ≤ l.length ∧ IsBag (ones l) (rows l') ∧ Below w.heap.size w w' := by
  obtain ⟨i0, hi, hy0, hy1, hy2⟩ := info_parts Try.info_many
  obtain ⟨ao, n, cap, rfl⟩ := h.sl
  obtain ⟨hn, hc1, hc2⟩ := h.len
  unfold maxLen at hc2
  have HN : Hid (n = l.length) := hn
  have HH : Hid (RdsF w (.slice ao n cap) l) := h
  rw [← hn] at hbig
  clear h hn
  go_enter Try.func17, Try.ntmps17
  go_wp2_with (first
    | (at_make; refine wpList_make_full _ rfl _ _ 36 rfl w.heap.size 46 i0 (.agg #[.int .i64 0, .slice none 0 0, .slice none 0 0, .int .u64 0]) 4 Try.underlying36 hi hy0 hy1 .i64 .i64 _ _ n rfl rfl (by omega) (by omega) (by rw [hy2]; omega) (by unfold maxLen; omega) (Nat.le_refl _) ?_; intro w0 hown0 hgrow0))
  have hb0 : Below w.heap.size w w0 := (Below.refl _ _).grown hgrow0 (Nat.le_refl _) (by simp)
  rw [made_ev] at hown0
  clear hgrow0
  go_loopg [11] n (fun kx vi wr => ∃ i : Nat, vi = .int .i64 i ∧ i ≤ n ∧ n - i ≤ kx ∧ wr.ownsRow w.heap.size 46 4 (.slice (some ⟨w.heap.size, 0, none⟩) n n) n (ev (mixF l i)) ∧ Below w.heap.size w wr)
  case atStart => exact ⟨0, rfl, by omega, Nat.le_refl _, by unfold mixF; rw [List.take_zero, List.map_nil, List.nil_append, Nat.sub_zero, ← HN.out]; exact hown0, hb0⟩
  case round =>
    clear hown0 hb0
    obtain ⟨i, rfl, hi', hkx, hown, hbel⟩ := hrel
    by_cases hlt : i < n
    · have hlt' : (i : Int) < (n : Int) := by omega
      have hil : i < l.length := by have := HN.out; omega
      have hr := RdsF.below HH.out hbel
      obtain ⟨b, off, rfl, hcell⟩ := hr.at (by omega)
      obtain ⟨q0, q1, q2⟩ := hcell i hil
      obtain ⟨aD, nD, cD, hD⟩ := (hr.ok l[i] (List.getElem_mem hil)).rd.sl
      obtain ⟨aM, nM, cM, hM⟩ := (hr.ok l[i] (List.getElem_mem hil)).rm.sl
      have hms := mixF_set l i hil
      have hes := ev_set (mixF l i) i ⟨l[i], 1⟩ (by rw [mixF_length l i (by omega)]; exact hil)
      rw [hms] at hes
      simp only at hes
      rw [hD, hM] at hes
      rw [hD] at q1
      rw [hM] at q2
      generalize l[i].t = tt at q0 hes
      have HOWN : Hid (wr.ownsRow w.heap.size 46 4 (.slice (some ⟨w.heap.size, 0, none⟩) n n) n (ev (mixF l i))) := hown
      obtain ⟨W, hW⟩ : ∃ W, W = wr.alloc (.cells #[.int .i64 tt, .slice aD nD cD, .slice aM nM cM] 27) := ⟨_, rfl⟩
      have ownW : W.ownsRow w.heap.size 46 4 (.slice (some ⟨w.heap.size, 0, none⟩) n n) n (ev (mixF l i)) := by rw [hW]; exact hown.alloc _
      have hfz := fun j => ownW.frozenAt j
      have hcs : ∀ c, c < 4 → ∃ u, W.cell? ⟨w.heap.size, i * 4 + c, none⟩ = some u := fun c hc => by
        rw [ownW.cellAt (i * 4 + c) (by omega)]
        have : i * 4 + c < (ev (mixF l i)).length := by rw [ev_length, mixF_length l i (by omega)]; omega
        exact ⟨_, List.getElem?_eq_getElem this⟩
      obtain ⟨x0, e0⟩ := hcs 0 (by omega)
      obtain ⟨x1, e1⟩ := hcs 1 (by omega)
      obtain ⟨x2, e2⟩ := hcs 2 (by omega)
      obtain ⟨x3, e3⟩ := hcs 3 (by omega)
      rw [Nat.add_zero] at e0
      have hst := stored4 ownW (i * 4) (.int .i64 tt) (.slice aD nD cD) (.slice aM nM cM) (.int .u64 1)
      have hfin : Hid (((((W.setCell ⟨w.heap.size, i * 4, none⟩ (.int .i64 tt)).setCell ⟨w.heap.size, i * 4 + 1, none⟩ (.slice aD nD cD)).setCell ⟨w.heap.size, i * 4 + 2, none⟩ (.slice aM nM cM)).setCell ⟨w.heap.size, i * 4 + 3, none⟩ (.int .u64 1)).ownsRow w.heap.size 46 4 (.slice (some ⟨w.heap.size, 0, none⟩) n n) n (ev (mixF l (i + 1))) ∧
          Below w.heap.size w ((((W.setCell ⟨w.heap.size, i * 4, none⟩ (.int .i64 tt)).setCell ⟨w.heap.size, i * 4 + 1, none⟩ (.slice aD nD cD)).setCell ⟨w.heap.size, i * 4 + 2, none⟩ (.slice aM nM cM)).setCell ⟨w.heap.size, i * 4 + 3, none⟩ (.int .u64 1))) := by
        have hbW : Below w.heap.size w W := by rw [hW]; exact hbel.alloc hbel.size _
        refine ⟨?_, hbW.grown hst.2 hbW.size fun k hk => by cases hk; exact Nat.le_refl _⟩
        rw [hes]
        exact hst.1
      rw [hW] at hfz e0 e1 e2 e3 hfin
      clear hst ownW hcs hW hms hes hcell hr hD hM hown hbel
      go_wp2_with fail
      go_roundg (n - (i + 1))
      case measure => omega
      case rel => exact ⟨i + 1, by go_num, by omega, Nat.le_refl _, hfin.out.1, hfin.out.2⟩
    · have hlt' : ¬ (i : Int) < (n : Int) := by omega
      have hin : i = l.length := by have := HN.out; omega
      rw [hin, mixF_all] at hown
      have hm : RdsM wr (.slice (some ⟨w.heap.size, 0, none⟩) n n) (l.map fun f => ⟨f, 1⟩) := by
        refine ⟨?_, fun e he => ?_⟩
        · have := RdsK.of_own hown
          rw [List.length_map, ← HN.out]
          exact this
        · obtain ⟨f, hf, rfl⟩ := List.mem_map.1 he
          exact ⟨(HH.out.ok f hf).below hbel, by show 1 < two64; decide⟩
      have kB := bagOf_any wr _ _ hm (by rw [List.length_map, ← HN.out]; exact hbig)
      have e1 : rows (l.map fun f => (⟨f, 1⟩ : En)) = ones l := by unfold rows ones; rw [List.map_map]; rfl
      rw [e1, List.length_map] at kB
      have hws : w.heap.size ≤ wr.heap.size := hbel.size
      have HBel : Hid (Below w.heap.size w wr) := hbel
      clear hm hown e1 hin hbel
      go_wp2_with fail
      refine kB.mono ?_
      rintro e w5 ⟨v5, rfl, l', om, hll, hib, b5⟩
      go_wp2_with fail
      go_ret
      exact ⟨v5, rfl, l', om.mono hws, hll, hib, HBel.out.trans (b5.mono hws)⟩
end Go.Proofs.Ytgdeongeonhlpaa
