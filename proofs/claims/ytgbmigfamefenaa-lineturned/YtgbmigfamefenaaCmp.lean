/- The library's sort of keys: the row is still one's own. -/
import Derived.Test.YtgbmigfamefenaaRwM
namespace Go.Proofs.Ytgbmigfamefenaa
open Go.Shelf Go.RowKit Go.Maps Go.Sort
set_option linter.unusedVariables false

theorem block_sorted {w : World} {g m cap : Nat} {d : Array K3} {os : Array Obj} {cur : Array Value} (hg : w.heap[g]? = some (.cells cur 55 (0, 0))) (hs : cur.size = cap * 3) : ∃ cur', (sortWorldK kc 3 w g 0 m d os).heap[g]? = some (.cells cur' 55 (0, 0)) ∧ cur'.size = cap * 3 := by
  have hgl : g < w.heap.size := (Array.getElem?_eq_some_iff.1 hg).1
  unfold sortWorldK
  rw [heap_grow_old _ _ (by rw [size_putRowK]; show g < w.heap.size; omega)]
  refine ⟨putCells id 0 (flatK kc 3 d) cur, ?_, by simpa [putCells] using hs⟩
  simp [putRowK, putRow, mapBlock, Sort.ahead, Array.getElem?_modify, hg, onCells]
/-- A row whose cells are read in a block of its own is owned. -/
theorem own_of_rds {w : World} {base g n cap : Nat} {v : Value} {l : List K3} (h : RdsK 3 w v l.length (kcs l)) (hb : base ≤ g) (hn : l.length = n) (hnc : n ≤ cap) (hcm : cap ≤ maxLen) (hblk : ∃ cur', w.heap[g]? = some (.cells cur' 55 (0, 0)) ∧ cur'.size = cap * 3) (hv : v = .slice (some ⟨g, 0, none⟩) n cap := by rfl) : OwK w base v l := by
  subst hv
  obtain ⟨cur', h1, h2⟩ := hblk
  obtain ⟨a, c, e, h3, h4, h5⟩ := RdsK.flat kc 3 (fun _ => rfl) (by omega) h
  refine ⟨by rw [kcs_length], .inr ⟨g, cap, cur', by rw [hn], hb, h1, by omega, hcm, h2, ?_⟩⟩
  apply List.ext_getElem?
  intro j
  rw [List.getElem?_take, Array.getElem?_toList]
  by_cases hj : j < l.length * 3
  · rw [if_pos hj]
    have hjl : j / 3 < l.length := by omega
    obtain ⟨b, o, e2, hc⟩ := h5 (by omega)
    have e3 : a = some ⟨g, 0, none⟩ := by
      simp only [Value.slice.injEq] at e
      exact e.1.symm
    rw [e2] at e3
    simp only [Option.some.injEq, Addr.mk.injEq] at e3
    obtain ⟨rfl, rfl, _⟩ := e3
    have hk := flat_get kc 3 (fun _ => rfl) l (j / 3) (j % 3) hjl (by omega)
    rw [show j / 3 * 3 + j % 3 = j by omega] at hk
    have hlt : j % 3 < (kc l[j / 3]).length := by show j % 3 < 3; omega
    have hcell := hc (j / 3) hjl (j % 3) _ (List.getElem?_eq_getElem hlt)
    rw [Nat.zero_add, show j / 3 * 3 + j % 3 = j by omega] at hcell
    have hcj : cur'[j]? = some ((kc l[j / 3])[j % 3]) := by
      unfold World.cell? at hcell
      simpa [h1] using hcell
    rw [hcj]
    show _ = (l.flatMap kc)[j]?
    rw [hk, List.getElem?_eq_getElem hlt]
  · rw [if_neg hj, List.getElem?_eq_none]
    rw [kcs_length]
    omega
set_option maxHeartbeats 800000 in
theorem sort_own (w : World) (base : Nat) (v : Value) (l : List K3) (hown : OwK w base v l) (hbs : base ≤ w.heap.size) (hlen : l.length < 4611686018427387904) :
    Calls Try.prog 35 #[v, .func (.func 36) #[] #[]] w fun e w' => e = .returned (.tuple #[]) ∧ ∃ l', l'.Perm l ∧ (l'.Pairwise fun a b => ¬ Stn b a) ∧ OwK w' base v l' ∧ Below base w w' := by
  rcases hown.2 with ⟨rfl, hn⟩ | ⟨g, cap, cur, rfl, hbg, hg, hnc, hcm, hcs, htake⟩
  · have hl : l = [] := List.eq_nil_of_length_eq_zero hn
    subst hl
    have hI : ∀ W, Calls Try.prog 66 #[.slice none 0 0, .int .i64 0, .int .i64 0, .func (.func 36) #[] #[]] W fun e w' => e = .returned (.tuple #[]) ∧ w' = W := fun W => by
      go_enter Try.func66, Try.ntmps66
      go_wp2_with fail
      refine wp_loop_rounds 1 ?_
      rw [rounds_succ]
      go_wp2_with fail
      go_end0
      exact ⟨rfl, rfl⟩
    have hP : ∀ W, Calls Try.prog 52 #[.slice none 0 0, .int .i64 0, .int .i64 0, .int .i64 (Lib.bitLen 0 : Nat), .func (.func 36) #[] #[]] W fun e w' => e = .returned (.tuple #[]) ∧ w' = W := fun W => by
      go_enter Try.func52, Try.ntmps52
      go_wp2_with fail
      refine wp_loop_rounds 1 ?_
      rw [rounds_succ]
      go_wp2_with (go_at_call 66; refine (hI _).mono ?_; rintro e w' ⟨rfl, rfl⟩)
      (try simp only [Exit.inBlock, Exit.then]); refine bodyPost_ret (results_none rfl _ _ _) rfl ?_
      exact ⟨rfl, rfl⟩
    have hB : ∀ W, Calls Try.prog 53 #[.int .u64 0] W fun e w' => e = .returned (.int .i64 (Lib.bitLen 0 : Nat)) ∧ w' = W := fun W => by
      have h := Any.bits_Len (SlLaysF0.n15.bits (P := Try.prog) (ρ := sortL_ren) { sortL with }) 0 W (by omega) (by omega)
      exact h
    go_enter Try.func35, Try.ntmps35
    go_wp2_with (first | (go_at_call 53; refine (hB _).mono ?_; rintro e w' ⟨rfl, rfl⟩) | (go_at_call 52; refine (hP _).mono ?_; rintro e w' ⟨rfl, rfl⟩))
    go_end0
    exact ⟨rfl, [], List.Perm.refl _, List.Pairwise.nil, ⟨rfl, .inl ⟨rfl, rfl⟩⟩, Below.refl _ _⟩
  · have hgl : g < w.heap.size := (Array.getElem?_eq_some_iff.1 hg).1
    have hH := row_holds hown
    have eg : ∀ args w, (callFunc 36 args).run Try.prog w = .ok (.enter 36 args) w := enters_of Try.func36 (by kernel_rfl) rfl
    have hcon := AnyQ.slices_SortFunc sortL 3 agg_key size_key kc (fun _ => rfl) (fun x v hv => by simp [kc] at hv; rcases hv with rfl | rfl | rfl <;> rfl) cmpK swoK 36 #[] g 0 cap l.toArray w eg (clo_lays g 0 _ w) hH hgl (by simpa using hlen)
    change Calls Try.prog 35 _ _ _ at hcon
    have hsz : l.toArray.size = l.length := by simp
    rw [hsz] at hcon
    refine hcon.mono ?_
    rintro e w' ⟨rfl, d', n, os, hp, hs, rfl⟩
    have hd : d'.size = l.length := hp.1.trans hsz
    have hbb := below_sortK (w := w) (m := n) (d := d') (os := os) hbg hbs
    refine ⟨rfl, d'.toList, ?_, ?_, ?_, hbb⟩
    · have h2 := hp.2.2
      rw [Array.extract_eq_self_of_le (by omega), Array.extract_eq_self_of_le (by simp)] at h2
      simpa using h2
    · rw [← hd] at hs
      exact rise_of hs
    · have hr := rds_sorted (m := n) (os := os) hH hgl (hd.trans hsz.symm) (cap := cap) (by omega) hcm
      refine own_of_rds (v := .slice (some ⟨g, 0, none⟩) l.length cap) ?_ hbg (by simp [hd]) hnc hcm ?_
      · have e : d'.toList.length = d'.size := by simp
        rw [e, ← hd]
        exact hr
      · exact block_sorted hg hcs
end Go.Proofs.Ytgbmigfamefenaa

namespace Go.Proofs.Ytgbmigfamefenaa
open Go.Shelf Go.RowKit Go.Maps Go.Sort
set_option linter.unusedVariables false

/-- A key's cells. -/
structure AtK (w : World) (g o : Nat) (k : K3) : Prop where
  c0 : w.cell? ⟨g, o, none⟩ = some (.int .i64 k.1)
  c1 : w.cell? ⟨g, o + 1, none⟩ = some (.int .i64 k.2.1)
  c2 : w.cell? ⟨g, o + 2, none⟩ = some (.int .i64 k.2.2)
theorem AtK.up {w w' : World} {g o : Nat} {k : K3} (h : AtK w g o k) (hb : Below w.heap.size w w') : AtK w' g o k := by
  have up : ∀ o' u, w.cell? ⟨g, o', none⟩ = some u → w'.cell? ⟨g, o', none⟩ = some u := fun o' u hu => (hb.cell (World.block_lt_of_cell? _ _ hu)).trans hu
  exact ⟨up _ _ h.c0, up _ _ h.c1, up _ _ h.c2⟩
/-- A block of keys, by its cells. -/
def KB (w : World) (g cap : Nat) : Prop := ∃ cur : Array Value, w.heap[g]? = some (.cells cur 55 (0, 0)) ∧ cur.size = cap * 3
theorem KB.up {w w' : World} {g cap : Nat} (h : KB w g cap) (hb : Below w.heap.size w w') : KB w' g cap := by
  obtain ⟨cur, h1, h2⟩ := h
  exact ⟨cur, by rw [hb.block g (Array.getElem?_eq_some_iff.1 h1).1]; exact h1, h2⟩
theorem KB.fz {w : World} {g cap : Nat} (h : KB w g cap) (j : Nat) : w.frozen? ⟨g, j, none⟩ = false := by
  obtain ⟨cur, h1, _⟩ := h
  unfold World.frozen?
  simp [h1]
theorem KB.set {w : World} {g cap i : Nat} {u : Value} (h : KB w g cap) : KB (w.setCell ⟨g, i, none⟩ u) g cap := by
  obtain ⟨cur, h1, h2⟩ := h
  exact ⟨_, heap_setCell_same w g i cur _ u h1, by simpa using h2⟩
theorem KB.has {w : World} {g cap j : Nat} (h : KB w g cap) (hj : j < cap * 3) : ∃ u, w.cell? ⟨g, j, none⟩ = some u := by
  obtain ⟨cur, h1, h2⟩ := h
  refine ⟨cur[j]'(by omega), ?_⟩
  unfold World.cell?
  simp [h1, show j < cur.size by omega]
theorem KB.cell_set {w : World} {g cap i : Nat} {u : Value} (h : KB w g cap) (hi : i < cap * 3) (j : Nat) : (w.setCell ⟨g, i, none⟩ u).cell? ⟨g, j, none⟩ = if i = j then some u else w.cell? ⟨g, j, none⟩ := by
  obtain ⟨cur, h1, h2⟩ := h
  have h3 := heap_setCell_same w g i cur _ u h1
  unfold World.cell?
  simp only [h3, h1]
  by_cases e : i = j
  · subst e
    simp [show i < cur.size by omega]
  · simp [e]
/-- Three cells stored. -/
def st3 (w : World) (g o : Nat) (k : K3) : World := ((w.setCell ⟨g, o, none⟩ (.int .i64 k.1)).setCell ⟨g, o + 1, none⟩ (.int .i64 k.2.1)).setCell ⟨g, o + 2, none⟩ (.int .i64 k.2.2)
theorem st3_kb {w : World} {g cap o : Nat} {k : K3} (h : KB w g cap) : KB (st3 w g o k) g cap := h.set.set.set
theorem st3_cell {w : World} {g cap o : Nat} {k : K3} (h : KB w g cap) (ho : o + 2 < cap * 3) (j : Nat) : (st3 w g o k).cell? ⟨g, j, none⟩ = if o + 2 = j then some (.int .i64 k.2.2) else if o + 1 = j then some (.int .i64 k.2.1) else if o = j then some (.int .i64 k.1) else w.cell? ⟨g, j, none⟩ := by
  unfold st3
  rw [KB.cell_set h.set.set (by omega), KB.cell_set h.set (by omega), KB.cell_set h (by omega)]
theorem st3_at {w : World} {g cap o : Nat} {k : K3} (h : KB w g cap) (ho : o + 2 < cap * 3) : AtK (st3 w g o k) g o k := by
  refine ⟨?_, ?_, ?_⟩
  · rw [st3_cell h ho, if_neg (by omega), if_neg (by omega), if_pos rfl]
  · rw [st3_cell h ho, if_neg (by omega), if_pos rfl]
  · rw [st3_cell h ho, if_pos rfl]
theorem st3_other {w : World} {g cap o o' : Nat} {k k' : K3} (h : KB w g cap) (ho : o + 2 < cap * 3) (hn : o' + 2 < o ∨ o + 2 < o') (ha : AtK w g o' k') : AtK (st3 w g o k) g o' k' := by
  refine ⟨?_, ?_, ?_⟩
  · rw [st3_cell h ho, if_neg (by omega), if_neg (by omega), if_neg (by omega)]; exact ha.c0
  · rw [st3_cell h ho, if_neg (by omega), if_neg (by omega), if_neg (by omega)]; exact ha.c1
  · rw [st3_cell h ho, if_neg (by omega), if_neg (by omega), if_neg (by omega)]; exact ha.c2
theorem st3_grown {w : World} {g o : Nat} {k : K3} : w.grownBy (st3 w g o k) (some g) := grown_trans (grown_trans grown_setCell grown_setCell) grown_setCell
/-- clear(s[k:]), at keys. -/
theorem run_clearK (w : World) (ty : TypeId) (g o n c cap : Nat) (hn : 0 < n) (h : KB w g cap) (hfit : o + n * 3 ≤ cap * 3) : ∃ w', (Builtin.clear_ #[52] ty #[.slice (some ⟨g, o, none⟩) n c]).run Try.prog w = .ok (.tuple #[]) w' ∧ w.grownBy w' (some g) ∧ KB w' g cap ∧ ∀ j, j < o → w'.cell? ⟨g, j, none⟩ = w.cell? ⟨g, j, none⟩ := by
  obtain ⟨cur, h1, h2⟩ := h
  obtain ⟨Z, hZ⟩ : ∃ Z, Z = (Builtin.zeroCells (Value.agg #[.int .i64 0, .int .i64 0, .int .i64 0]).cells n).toList := ⟨_, rfl⟩
  have hZl : Z.length = n * 3 := by rw [hZ, Array.length_toList, zc3]
  have hone : ∀ u ∈ Z, u.oneCell' = true := by
    intro u hu
    rw [hZ] at hu
    simp only [Builtin.zeroCells, Array.toList_map, List.mem_map] at hu
    obtain ⟨i, _, rfl⟩ := hu
    have : i % 3 = 0 ∨ i % 3 = 1 ∨ i % 3 = 2 := by omega
    simp only [Value.cells]
    show ((#[Value.int .i64 0, .int .i64 0, .int .i64 0] : Array Value)[i % 3]!).oneCell' = true
    rcases this with q | q | q <;> rw [q] <;> rfl
  have hst := run_storeCells_at (P := Try.prog) g o 55 Z 0 cur w h1 (by rw [hZl]; omega) hone
  simp only [Nat.add_zero] at hst
  have hzv := Try.zeroValue55
  obtain ⟨m, rfl⟩ : ∃ m, n = m + 1 := ⟨n - 1, by omega⟩
  obtain ⟨W, hW⟩ : ∃ W, W = w.setRow g (List.take o cur.toList ++ Z ++ List.drop (o + Z.length) cur.toList).toArray := ⟨_, rfl⟩
  have hb := setRow_heap w g cur (List.take o cur.toList ++ Z ++ List.drop (o + Z.length) cur.toList).toArray _ _ h1
  rw [← hW] at hb hst
  refine ⟨W, ?_, ?_, ⟨_, hb, by simp [hZl]; omega⟩, ?_⟩
  · simp [Builtin.clear_, run_underlying Try.underlying52, hzv, ← hZ, hst]
  · rw [hW]; exact grown_setRow w g _
  · intro j hj
    unfold World.cell?
    simp only [h1, hb]
    simp only [List.getElem?_toArray]
    rw [List.append_assoc, List.getElem?_append_left (by simp; omega), List.getElem?_take, if_pos hj]
    simp
end Go.Proofs.Ytgbmigfamefenaa

namespace Go.Proofs.Ytgbmigfamefenaa
open Go.Shelf Go.RowKit Go.Maps Go.Sort
set_option linter.unusedVariables false

theorem stn_of {a b : K3} (h : ¬ Stn b a) (hne : b ≠ a) : Stn a b := by
  rcases Stn.total hne with q | q
  · exact absurd q h
  · exact q
theorem Stn.trans {a b c : K3} (h : Stn a b) (g : Stn b c) : Stn a c := by unfold Stn at *; omega
/-- What Compact answers. -/
structure CpP (w : World) (base : Nat) (l : List K3) (ev : Ending) (w' : World) : Prop where
  ex : ∃ v' l', ev = .returned v' ∧ l'.Pairwise Stn ∧ (∀ k, k ∈ l' ↔ k ∈ l) ∧ l'.length ≤ l.length ∧ RdsK 3 w' v' l'.length (kcs l') ∧ Below base w w'
/-- A row read off its block. -/
theorem rds_at {w : World} {g cap n : Nat} {l : List K3} (hn : l.length = n) (hc : n ≤ cap) (hm : cap ≤ maxLen) (h : ∀ p (hp : p < l.length), AtK w g (p * 3) l[p]) : RdsK 3 w (.slice (some ⟨g, 0, none⟩) n cap) l.length (kcs l) := by
  refine ⟨some ⟨g, 0, none⟩, cap, by rw [hn], kcs_length l, by omega, hm, (fun h => by cases h), ?_⟩
  rintro ad ⟨rfl⟩ j u hj
  have hjl : j < l.length * 3 := by have := (List.getElem?_eq_some_iff.1 hj).1; rwa [kcs_length] at this
  have hk := kcs_get l (j / 3) (j % 3) (by omega) (by omega)
  rw [show j / 3 * 3 + j % 3 = j by omega, hj] at hk
  have ha := h (j / 3) (by omega)
  rw [Addr.add_lit, Nat.zero_add]
  have h3 : j % 3 = 0 ∨ j % 3 = 1 ∨ j % 3 = 2 := by omega
  rcases h3 with q | q | q
  · rw [q] at hk
    simp [kc] at hk
    have hcc := ha.c0
    rw [show j / 3 * 3 = j by omega] at hcc
    rw [hk]
    exact hcc
  · rw [q] at hk
    simp [kc] at hk
    have hcc := ha.c1
    rw [show j / 3 * 3 + 1 = j by omega] at hcc
    rw [hk]
    exact hcc
  · rw [q] at hk
    simp [kc] at hk
    have hcc := ha.c2
    rw [show j / 3 * 3 + 2 = j by omega] at hcc
    rw [hk]
    exact hcc
/-- While the tail is packed: the first kk keys, and those from the p0-th on. -/
structure Pk (W : World) (g cap : Nat) (l : List K3) (out : List K3) (p0 : Nat) : Prop where
  kb : KB W g cap
  o : ∀ p (hp : p < out.length), AtK W g (p * 3) out[p]
  r : ∀ p (hp : p < l.length), p0 ≤ p → AtK W g (p * 3) l[p]
theorem Pk.up {W W' : World} {g cap : Nat} {l out : List K3} {p0 : Nat} (h : Pk W g cap l out p0) (hb : Below W.heap.size W W') : Pk W' g cap l out p0 := ⟨h.kb.up hb, fun p hp => (h.o p hp).up hb, fun p hp q => (h.r p hp q).up hb⟩
theorem Pk.later {W : World} {g cap : Nat} {l out : List K3} {p0 p1 : Nat} (h : Pk W g cap l out p0) (hp : p0 ≤ p1) : Pk W g cap l out p1 := ⟨h.kb, h.o, fun p hp' q => h.r p hp' (by omega)⟩
theorem Pk.put {W : World} {g cap : Nat} {l out : List K3} {p0 p1 : Nat} (h : Pk W g cap l out p0) (hp : p0 ≤ p1) (ho : out.length < p1) (hl : p1 < l.length) (hc : l.length ≤ cap) : Pk (st3 W g (out.length * 3) l[p1]) g cap l (out ++ [l[p1]]) p1 := by
  have hfit : out.length * 3 + 2 < cap * 3 := by omega
  refine ⟨st3_kb h.kb, fun p hp' => ?_, fun p hp' q => st3_other h.kb hfit (by omega) (h.r p hp' (by omega))⟩
  by_cases e : p < out.length
  · rw [List.getElem_append_left e]
    exact st3_other h.kb hfit (by omega) (h.o p e)
  · have hpe : p = out.length := by simp at hp'; omega
    subst hpe
    rw [List.getElem_append_right (Nat.le_refl _)]
    simp only [Nat.sub_self, List.getElem_cons_zero]
    exact st3_at h.kb hfit
theorem step_rise {t : List K3} {b a : K3} (hp : t.Pairwise Stn) (hl : ∀ x ∈ t, x = b ∨ Stn x b) (hba : Stn b a) : (t ++ [a]).Pairwise Stn := by
  refine List.pairwise_append.2 ⟨hp, List.pairwise_singleton .., fun x hx y hy => ?_⟩
  rw [List.mem_singleton.1 hy]
  rcases hl x hx with rfl | q
  · exact hba
  · exact q.trans hba
/-- What was packed so far. -/
structure PkO (l out : List K3) (p : Nat) : Prop where
  rise : out.Pairwise Stn
  mem : ∀ x, x ∈ out ↔ x ∈ l.take (p + 1)
  lt : p < l.length
  last : ∀ x ∈ out, x = l[p] ∨ Stn x l[p]
theorem PkO.keep {l out : List K3} {p q : Nat} {c d : K3} (h : PkO l out p) {hp : p < l.length} {hq : q < l.length} (hd : d = l[p]) (hc : c = l[q]) (hqp : q = p + 1 := by omega) (hcd : c = d := by rfl) : PkO l out (p + 1) := by
  subst hqp
  refine ⟨h.rise, fun x => ?_, hq, fun x hx => ?_⟩
  · rw [h.mem, List.take_succ_eq_append_getElem hq, List.mem_append, List.mem_singleton]
    constructor
    · intro r; exact .inl r
    · rintro (r | r)
      · exact r
      · rw [r, ← hc, hcd, hd, List.mem_take_iff_getElem]
        exact ⟨p, by omega, rfl⟩
  · have := h.last x hx
    rw [← hd, ← hcd, hc] at this
    exact this
theorem PkO.step {l out : List K3} {p q : Nat} {c d : K3} (h : PkO l out p) {hp : p < l.length} {hq : q < l.length} (hd : d = l[p]) (hc : c = l[q]) (hs : Stn d c) (hqp : q = p + 1 := by omega) : PkO l (out ++ [c]) (p + 1) := by
  subst hqp
  refine ⟨step_rise h.rise (fun x hx => by have := h.last x hx; rw [← hd] at this; exact this) hs, fun x => ?_, hq, fun x hx => ?_⟩
  · rw [List.mem_append, h.mem, List.take_succ_eq_append_getElem hq, List.mem_append, hc]
  · rcases List.mem_append.1 hx with r | r
    · right
      rw [← hc]
      rcases h.last x r with e | e
      · rw [e, ← hd]; exact hs
      · rw [← hd] at e; exact e.trans hs
    · left
      rw [← hc]
      exact List.mem_singleton.1 r
set_option maxRecDepth 100000 in
set_option maxHeartbeats 12800000 in
theorem compK_any (w : World) (base : Nat) (v : Value) (l : List K3) (hown : OwK w base v l) (hbb : base ≤ w.heap.size) (hr : l.Pairwise fun a b => ¬ Stn b a) (hlen : l.length ≤ 100000) :
    Calls Try.prog 37 #[v] w (CpP w base l) := by
  have mixed : Try.prog.follows .mixedOrders = true := by kernel_rfl
  have hrd0 : RdsK 3 w v l.length (kcs l) := RdsK.of_own hown
  obtain ⟨va, vc, hve⟩ := own_sl hown
  by_cases hsm : l.length < 2
  · have hs : l.Pairwise Stn := by
      match l, hsm with
      | [], _ => exact .nil
      | [a], _ => exact List.pairwise_singleton ..
    have HE : Hid (CpP w base l (.returned v) w) := ⟨_, _, rfl, hs, fun _ => Iff.rfl, Nat.le_refl _, hrd0, Below.refl _ _⟩
    have hsz : (l.length : Int) < 2 := by omega
    obtain ⟨n, hn⟩ : ∃ n, n = l.length := ⟨_, rfl⟩
    rw [← hn] at hve hsz
    clear hown hr hs hrd0 hsm hn hlen
    subst hve
    go_enter Try.func37, Try.ntmps37
    go_wp2_with fail
    go_ret
    exact HE.out
  · rcases hown.2 with ⟨_, h0⟩ | ⟨g, cap, cur, hv, hbg, hg, hnc, hcm, hcs, htake⟩
    · omega
    · have hpk : Pk w g cap l [] 0 := by
        refine ⟨⟨cur, hg, hcs⟩, (fun p hp => by simp at hp), fun p hp _ => ?_⟩
        subst hv
        obtain ⟨a, c, e, h3, h4, h5⟩ := RdsK.flat kc 3 (fun _ => rfl) (by omega) hrd0
        obtain ⟨b, o, e2, hc⟩ := h5 (by omega)
        simp only [Value.slice.injEq] at e
        rw [← e.1] at e2
        simp only [Option.some.injEq, Addr.mk.injEq] at e2
        obtain ⟨rfl, rfl, _⟩ := e2
        have q0 := hc p hp 0 _ rfl
        have q1 := hc p hp 1 _ rfl
        have q2 := hc p hp 2 _ rfl
        rw [Nat.zero_add] at q0 q1 q2
        exact ⟨q0, q1, q2⟩
      have HPK := hide hpk
      have HRD0 := hide hrd0
      have HRR := hide hr
      obtain ⟨n, hn⟩ : ∃ n, n = l.length := ⟨_, rfl⟩
      have HN := hide hn
      rw [← hn] at hv hnc hsm hlen
      have hsz : ¬ (n : Int) < 2 := by omega
      have HCM := hide hcm
      unfold maxLen at hcm
      have HBB := hide hbb
      have HBG := hide hbg
      clear hve hrd0 hpk hr hg hcs htake hown hn hbb hbg
      subst hv
      go_enter Try.func37, Try.ntmps37
      go_wp2_with fail
      go_loopg [3, 4, 5] n (fun kx v3 _ _ wr => ∃ (i : Nat), v3 = .int .i64 (i : Int) ∧ 1 ≤ i ∧ i ≤ n ∧ n - i ≤ kx ∧ Hid ((l.take i).Pairwise Stn) ∧ Hid (Grows w wr))
      case atStart =>
        refine ⟨1, rfl, Nat.le_refl _, by omega, by omega, ?_, Grows.refl _⟩
        apply hide
        match l with
        | [] => exact .nil
        | a :: l => exact List.pairwise_singleton ..
      case round =>
        obtain ⟨i, rfl, hi1, hi, hkx, HP, HG⟩ := hrel
        by_cases hlt : i < n
        · have hltz : (i : Int) < (n : Int) := by omega
          have hil : i < l.length := by have := HN.out; omega
          have hil' : i - 1 < l.length := by omega
          have hpw := HPK.out.up HG.out.below
          have ha := hpw.r i hil (Nat.zero_le _)
          have hb := hpw.r (i - 1) hil' (Nat.zero_le _)
          have hnot := List.pairwise_iff_getElem.1 HRR.out (i - 1) i hil' hil (by omega)
          have htk : (l.take (i + 1)) = l.take i ++ [l[i]] := List.take_succ_eq_append_getElem hil
          have hlast : ∀ x ∈ l.take i, x = l[i - 1] ∨ Stn x l[i - 1] := by
            intro x hx
            obtain ⟨j, hj, rfl⟩ := List.getElem_of_mem hx
            rw [List.length_take] at hj
            rw [List.getElem_take]
            by_cases e : j = i - 1
            · subst e; exact .inl rfl
            · have hjl : j < (l.take i).length := by rw [List.length_take]; omega
              have hil2 : i - 1 < (l.take i).length := by rw [List.length_take]; omega
              have := List.pairwise_iff_getElem.1 HP.out j (i - 1) hjl hil2 (by omega)
              rw [List.getElem_take, List.getElem_take] at this
              exact .inr this
          obtain ⟨a, hae⟩ : ∃ a, a = l[i] := ⟨_, rfl⟩
          obtain ⟨b, hbe⟩ : ∃ b, b = l[i - 1] := ⟨_, rfl⟩
          rw [← hae] at ha hnot htk
          rw [← hbe] at hb hnot hlast
          have HAE := hide hae
          have HBE := hide hbe
          have HTK := hide htk
          have HLS := hide hlast
          have HNT := hide hnot
          obtain ⟨a1, a2, a3⟩ := a
          obtain ⟨b1, b2, b3⟩ := b
          obtain ⟨i', rfl⟩ : ∃ i', i = i' + 1 := ⟨i - 1, by omega⟩
          rw [show i' + 1 - 1 = i' by omega] at hb
          have x0 := fun nq os => gro_cell ha.c0 nq os
          have x1 := fun nq os => gro_cell ha.c1 nq os
          have x2 := fun nq os => gro_cell ha.c2 nq os
          have y0 := fun nq os => gro_cell hb.c0 nq os
          have y1 := fun nq os => gro_cell hb.c1 nq os
          have y2 := fun nq os => gro_cell hb.c2 nq os
          simp only at x0 x1 x2 y0 y1 y2
          have hi2 : IntKind.i64.wrap (((i' + 1 : Nat) : Int) - 1) = (i' : Int) := by rw [IntKind.wrap_i64]; omega
          have hi3 : wrap64 (((i' + 1 : Nat) : Int) - 1) = (i' : Int) := by rw [← IntWalk.i64_left]; exact hi2
          have hi4 : (i' : Int) < (n : Int) := by omega
          have hi5 : (0 : Int) ≤ (i' : Int) := by omega
          have HW1 : Hid (wrap64 (((i' + 1 : Nat) : Int) + 1) = ((i' + 1 : Nat) : Int) + 1) := by apply hide; rw [← IntWalk.i64_left, IntKind.wrap_i64]; omega
          have hsplit : ¬ a1 = b1 ∨ (a1 = b1 ∧ ¬ a2 = b2) ∨ (a1 = b1 ∧ a2 = b2 ∧ ¬ a3 = b3) ∨ (a1 = b1 ∧ a2 = b2 ∧ a3 = b3) := by omega
          clear ha hb hnot htk hlast hpw hae hbe
          go_upto_region 6 with fail
          rcases hsplit with h1 | ⟨rfl, h1⟩ | ⟨rfl, rfl, h1⟩ | ⟨rfl, rfl, rfl⟩
          · have e1 : (a1 == b1) = false := by simpa using h1
            refine wp_region_quiet_grown (by assumption) (by kernel_rfl) ?_
            repeat (go_big_quiet_step (first | fail))
            refine wpQuiet_nil ?_
            intro V hw'
            obtain ⟨⟨nq, osq⟩, hw''⟩ := hw'
            have HGV : Hid (Grows w V) := by apply hide; rw [hw'']; exact HG.out.trans ⟨nq, osq, rfl⟩
            clear hw'' x0 x1 x2 y0 y1 y2
            go_wp2_with fail
            go_roundg (n - (i' + 1 + 1))
            case measure => omega
            case rel =>
              refine ⟨i' + 1 + 1, by first | (rw [HW1.out]; rfl) | rfl, by omega, by omega, Nat.le_refl _, ?_, HGV⟩
              apply hide
              rw [HTK.out]
              exact step_rise HP.out HLS.out (stn_of HNT.out (fun q => by simp only [Prod.mk.injEq] at q; omega))
          · have e1 : (a2 == b2) = false := by simpa using h1
            refine wp_region_quiet_grown (by assumption) (by kernel_rfl) ?_
            repeat (go_big_quiet_step (first | fail))
            refine wpQuiet_nil ?_
            intro V hw'
            obtain ⟨⟨nq, osq⟩, hw''⟩ := hw'
            have HGV : Hid (Grows w V) := by apply hide; rw [hw'']; exact HG.out.trans ⟨nq, osq, rfl⟩
            clear hw'' x0 x1 x2 y0 y1 y2
            go_wp2_with fail
            go_roundg (n - (i' + 1 + 1))
            case measure => omega
            case rel =>
              refine ⟨i' + 1 + 1, by first | (rw [HW1.out]; rfl) | rfl, by omega, by omega, Nat.le_refl _, ?_, HGV⟩
              apply hide
              rw [HTK.out]
              exact step_rise HP.out HLS.out (stn_of HNT.out (fun q => by simp only [Prod.mk.injEq] at q; omega))
          · have e1 : (a3 == b3) = false := by simpa using h1
            refine wp_region_quiet_grown (by assumption) (by kernel_rfl) ?_
            repeat (go_big_quiet_step (first | fail))
            refine wpQuiet_nil ?_
            intro V hw'
            obtain ⟨⟨nq, osq⟩, hw''⟩ := hw'
            have HGV : Hid (Grows w V) := by apply hide; rw [hw'']; exact HG.out.trans ⟨nq, osq, rfl⟩
            clear hw'' x0 x1 x2 y0 y1 y2
            go_wp2_with fail
            go_roundg (n - (i' + 1 + 1))
            case measure => omega
            case rel =>
              refine ⟨i' + 1 + 1, by first | (rw [HW1.out]; rfl) | rfl, by omega, by omega, Nat.le_refl _, ?_, HGV⟩
              apply hide
              rw [HTK.out]
              exact step_rise HP.out HLS.out (stn_of HNT.out (fun q => by simp only [Prod.mk.injEq] at q; omega))
          · refine wp_region_quiet_grown (by assumption) (by kernel_rfl) ?_
            repeat (go_big_quiet_step (first | fail))
            refine wpQuiet_nil ?_
            intro V hw'
            obtain ⟨⟨nq, osq⟩, hw''⟩ := hw'
            have HGV : Hid (Grows w V) := by apply hide; rw [hw'']; exact HG.out.trans ⟨nq, osq, rfl⟩
            clear hw'' x0 x1 x2 y0 y1 y2
            have hq1 : i' < l.length := by clear hi3 hi2; omega
            have hseq : l[i' + 1]'hil = l[i']'hq1 := by
              rw [← HAE.out]
              have := HBE.out
              simp only [Nat.add_sub_cancel] at this
              exact this
            have HSEQ := hide hseq
            have hstart : Hid (Pk V g cap l (l.take (i' + 1)) (i' + 1)) := by
              apply hide
              have hv := HPK.out.up HGV.out.below
              refine ⟨hv.kb, fun p hp => ?_, fun p hp _ => hv.r p hp (Nat.zero_le _)⟩
              have hpl : p < l.length := by rw [List.length_take] at hp; omega
              rw [List.getElem_take]
              exact hv.r p hpl (Nat.zero_le _)
            have hout : Hid (PkO l (l.take (i' + 1)) (i' + 1)) := by
              apply hide
              refine ⟨HP.out, fun x => ?_, by have := HN.out; omega, fun x hx => ?_⟩
              · rw [List.take_succ_eq_append_getElem (by have := HN.out; omega : i' + 1 < l.length), List.mem_append, List.mem_singleton]
                constructor
                · intro q; exact .inl q
                · rintro (q | q)
                  · exact q
                  · rw [q, hseq, List.mem_take_iff_getElem]
                    exact ⟨i', by have := HN.out; omega, rfl⟩
              · have := HLS.out x hx
                rw [HBE.out] at this
                rw [hseq]
                simpa using this
            have hb0 : Hid (Below base w V) := HGV.out.below.mono HBB.out
            have hti : (l.take (i' + 1)).length = i' + 1 := by rw [List.length_take]; have := HN.out; omega
            have hz1 : ((i' + 1 : Nat) : Int) ≤ (n : Int) := by omega
            have hz2 : ¬ cap = i' + 1 := by omega
            have hz3 : i' + 1 ≤ n := by omega
            have HTI := hide hti
            clear hseq hti hi2 hi3 hi4 hi5
            go_wp2_with fail
            go_loopg [3, 5] n (fun kx2 v3 v5 wq => ∃ (out : List K3) (j : Nat), v3 = .int .i64 (out.length : Int) ∧ v5 = .int .i64 (j : Int) ∧ 1 ≤ j ∧ i' + 1 + j ≤ n ∧ n - (i' + 1 + j) ≤ kx2 ∧ out.length ≤ i' + j ∧ Hid (Pk wq g cap l out (i' + j)) ∧ Hid (PkO l out (i' + j)) ∧ Hid (Below base w wq))
            case atStart => exact ⟨l.take (i' + 1), 1, by rw [HTI.out], rfl, Nat.le_refl _, by omega, by omega, by rw [HTI.out]; exact Nat.le_refl _, hstart, hout, hb0⟩
            case round =>
              rename World => wq
              obtain ⟨out, j, rfl, rfl, hj1, hjn, hkx2, hol, HPQ, HOUT, HBQ⟩ := hrel
              obtain ⟨on, hon⟩ : ∃ on, on = out.length := ⟨_, rfl⟩
              rw [← hon] at hol ⊢
              have HON := hide hon
              have HBQ2 := hide HBQ.out.size
              clear hon
              by_cases hjl : i' + 1 + j < n
              · have hjz : (j : Int) < ((n - (i' + 1) : Nat) : Int) := by omega
                have hl1 : i' + 1 + j < l.length := by have := HN.out; omega
                have hl2 : i' + j < l.length := by omega
                have hc := HPQ.out.r (i' + 1 + j) hl1 (by omega)
                have hd := HPQ.out.r (i' + j) hl2 (Nat.le_refl _)
                have hn2 := List.pairwise_iff_getElem.1 HRR.out (i' + j) (i' + 1 + j) hl2 hl1 (by omega)
                obtain ⟨c, hce⟩ : ∃ c, c = l[i' + 1 + j] := ⟨_, rfl⟩
                obtain ⟨d, hde⟩ : ∃ d, d = l[i' + j] := ⟨_, rfl⟩
                rw [← hce] at hc hn2
                rw [← hde] at hd hn2
                have HCE := hide hce
                have HDE := hide hde
                have HN2 := hide hn2
                obtain ⟨c1, c2, c3⟩ := c
                obtain ⟨d1', d2', d3'⟩ := d
                obtain ⟨j', rfl⟩ : ∃ j', j = j' + 1 := ⟨j - 1, by omega⟩
                have hc' : AtK wq g ((i' + 1) * 3 + (j' + 1) * 3) (c1, c2, c3) := by rw [← Nat.add_mul]; exact hc
                have hd' : AtK wq g ((i' + 1) * 3 + j' * 3) (d1', d2', d3') := by rw [← Nat.add_mul, show i' + 1 + j' = i' + (j' + 1) by omega]; exact hd
                have x0 := fun nq os => gro_cell hc'.c0 nq os
                have x1 := fun nq os => gro_cell hc'.c1 nq os
                have x2 := fun nq os => gro_cell hc'.c2 nq os
                have y0 := fun nq os => gro_cell hd'.c0 nq os
                have y1 := fun nq os => gro_cell hd'.c1 nq os
                have y2 := fun nq os => gro_cell hd'.c2 nq os
                simp only at x0 x1 x2 y0 y1 y2
                have hi2 : IntKind.i64.wrap (((j' + 1 : Nat) : Int) - 1) = (j' : Int) := by rw [IntKind.wrap_i64]; omega
                have hi3 : wrap64 (((j' + 1 : Nat) : Int) - 1) = (j' : Int) := by rw [← IntWalk.i64_left]; exact hi2
                have hi4 : (j' : Int) < ((n - (i' + 1) : Nat) : Int) := by omega
                have hi5 : (0 : Int) ≤ (j' : Int) := by omega
                have HW3 : Hid (wrap64 (((j' + 1 : Nat) : Int) + 1) = ((j' + 1 : Nat) : Int) + 1) := by apply hide; rw [← IntWalk.i64_left, IntKind.wrap_i64]; omega
                have hsplit : ¬ c1 = d1' ∨ (c1 = d1' ∧ ¬ c2 = d2') ∨ (c1 = d1' ∧ c2 = d2' ∧ ¬ c3 = d3') ∨ (c1 = d1' ∧ c2 = d2' ∧ c3 = d3') := by omega
                clear hc hd hc' hd' hn2 hce hde
                go_upto_region 11 with fail
                rcases hsplit with h1 | ⟨rfl, h1⟩ | ⟨rfl, rfl, h1⟩ | ⟨rfl, rfl, rfl⟩
                · have e1 : (c1 == d1') = false := by simpa using h1
                  refine wp_region_quiet_grown (by assumption) (by kernel_rfl) ?_
                  repeat (go_big_quiet_step (first | fail))
                  refine wpQuiet_nil ?_
                  intro V hw'
                  obtain ⟨⟨nq, osq⟩, hw''⟩ := hw'
                  have HGV : Hid (Grows wq V) := by apply hide; rw [hw'']; exact ⟨nq, osq, rfl⟩
                  clear hw'' x0 x1 x2 y0 y1 y2
                  have hpv := HPQ.out.up HGV.out.below
                  have hcd := (hpv.r (i' + 1 + (j' + 1)) (by have := HN.out; omega) (by omega))
                  rw [← HCE.out, Nat.add_mul (i' + 1) (j' + 1) 3] at hcd
                  have d0 := hcd.c0
                  have d1 := hcd.c1
                  have d2 := hcd.c2
                  simp only at d0 d1 d2
                  obtain ⟨u0, e0⟩ := hpv.kb.has (j := on * 3) (by omega)
                  obtain ⟨u1, e1'⟩ := hpv.kb.has (j := on * 3 + 1) (by omega)
                  obtain ⟨u2, e2'⟩ := hpv.kb.has (j := on * 3 + 2) (by omega)
                  have f0 := hpv.kb.fz (on * 3)
                  have f1 := hpv.kb.fz (on * 3 + 1)
                  have f2 := hpv.kb.fz (on * 3 + 2)
                  have hput := hpv.put (p1 := i' + 1 + (j' + 1)) (by omega) (by have := HON.out; omega) (by have := HN.out; omega) (by have := HN.out; omega)
                  rw [← HCE.out, ← HON.out] at hput
                  have HPUT := hide hput
                  have HBV : Hid (Below base w (st3 V g (on * 3) (c1, c2, c3))) := by
                    apply hide
                    have h1 : Below base w V := HBQ.out.trans (HGV.out.below.mono (Nat.le_trans HBB.out HBQ2.out))
                    refine Below.gr h1 (Nat.le_trans HBB.out h1.size) st3_grown fun r hr => ?_
                    rw [← Option.some.inj hr]
                    exact HBG.out
                  have HWo : Hid (wrap64 ((on : Int) + 1) = (on : Int) + 1) := by apply hide; rw [← IntWalk.i64_left, IntKind.wrap_i64]; omega
                  have honz : (on : Int) < (n : Int) := by omega
                  clear hpv hcd hput
                  go_wp2_with fail
                  go_roundg (n - (i' + 1 + (j' + 1) + 1))
                  case measure => omega
                  case rel =>
                    refine ⟨out ++ [(c1, c2, c3)], j' + 1 + 1, by rw [List.length_append, ← HON.out]; first | (rw [HWo.out]; rfl) | rfl, by first | (rw [HW3.out]; rfl) | rfl, by omega, by omega, by omega, by rw [List.length_append, ← HON.out]; simp; omega, ?_, ?_, HBV⟩
                    · apply hide
                      have := HPUT.out
                      rw [show i' + 1 + (j' + 1) = i' + (j' + 1 + 1) by omega] at this
                      exact this
                    · exact (HOUT.out.step HDE.out HCE.out (stn_of HN2.out (fun q => by simp only [Prod.mk.injEq] at q; omega)))
                · have e1 : (c2 == d2') = false := by simpa using h1
                  refine wp_region_quiet_grown (by assumption) (by kernel_rfl) ?_
                  repeat (go_big_quiet_step (first | fail))
                  refine wpQuiet_nil ?_
                  intro V hw'
                  obtain ⟨⟨nq, osq⟩, hw''⟩ := hw'
                  have HGV : Hid (Grows wq V) := by apply hide; rw [hw'']; exact ⟨nq, osq, rfl⟩
                  clear hw'' x0 x1 x2 y0 y1 y2
                  have hpv := HPQ.out.up HGV.out.below
                  have hcd := (hpv.r (i' + 1 + (j' + 1)) (by have := HN.out; omega) (by omega))
                  rw [← HCE.out, Nat.add_mul (i' + 1) (j' + 1) 3] at hcd
                  have d0 := hcd.c0
                  have d1 := hcd.c1
                  have d2 := hcd.c2
                  simp only at d0 d1 d2
                  obtain ⟨u0, e0⟩ := hpv.kb.has (j := on * 3) (by omega)
                  obtain ⟨u1, e1'⟩ := hpv.kb.has (j := on * 3 + 1) (by omega)
                  obtain ⟨u2, e2'⟩ := hpv.kb.has (j := on * 3 + 2) (by omega)
                  have f0 := hpv.kb.fz (on * 3)
                  have f1 := hpv.kb.fz (on * 3 + 1)
                  have f2 := hpv.kb.fz (on * 3 + 2)
                  have hput := hpv.put (p1 := i' + 1 + (j' + 1)) (by omega) (by have := HON.out; omega) (by have := HN.out; omega) (by have := HN.out; omega)
                  rw [← HCE.out, ← HON.out] at hput
                  have HPUT := hide hput
                  have HBV : Hid (Below base w (st3 V g (on * 3) (c1, c2, c3))) := by
                    apply hide
                    have h1 : Below base w V := HBQ.out.trans (HGV.out.below.mono (Nat.le_trans HBB.out HBQ2.out))
                    refine Below.gr h1 (Nat.le_trans HBB.out h1.size) st3_grown fun r hr => ?_
                    rw [← Option.some.inj hr]
                    exact HBG.out
                  have HWo : Hid (wrap64 ((on : Int) + 1) = (on : Int) + 1) := by apply hide; rw [← IntWalk.i64_left, IntKind.wrap_i64]; omega
                  have honz : (on : Int) < (n : Int) := by omega
                  clear hpv hcd hput
                  go_wp2_with fail
                  go_roundg (n - (i' + 1 + (j' + 1) + 1))
                  case measure => omega
                  case rel =>
                    refine ⟨out ++ [(c1, c2, c3)], j' + 1 + 1, by rw [List.length_append, ← HON.out]; first | (rw [HWo.out]; rfl) | rfl, by first | (rw [HW3.out]; rfl) | rfl, by omega, by omega, by omega, by rw [List.length_append, ← HON.out]; simp; omega, ?_, ?_, HBV⟩
                    · apply hide
                      have := HPUT.out
                      rw [show i' + 1 + (j' + 1) = i' + (j' + 1 + 1) by omega] at this
                      exact this
                    · exact (HOUT.out.step HDE.out HCE.out (stn_of HN2.out (fun q => by simp only [Prod.mk.injEq] at q; omega)))
                · have e1 : (c3 == d3') = false := by simpa using h1
                  refine wp_region_quiet_grown (by assumption) (by kernel_rfl) ?_
                  repeat (go_big_quiet_step (first | fail))
                  refine wpQuiet_nil ?_
                  intro V hw'
                  obtain ⟨⟨nq, osq⟩, hw''⟩ := hw'
                  have HGV : Hid (Grows wq V) := by apply hide; rw [hw'']; exact ⟨nq, osq, rfl⟩
                  clear hw'' x0 x1 x2 y0 y1 y2
                  have hpv := HPQ.out.up HGV.out.below
                  have hcd := (hpv.r (i' + 1 + (j' + 1)) (by have := HN.out; omega) (by omega))
                  rw [← HCE.out, Nat.add_mul (i' + 1) (j' + 1) 3] at hcd
                  have d0 := hcd.c0
                  have d1 := hcd.c1
                  have d2 := hcd.c2
                  simp only at d0 d1 d2
                  obtain ⟨u0, e0⟩ := hpv.kb.has (j := on * 3) (by omega)
                  obtain ⟨u1, e1'⟩ := hpv.kb.has (j := on * 3 + 1) (by omega)
                  obtain ⟨u2, e2'⟩ := hpv.kb.has (j := on * 3 + 2) (by omega)
                  have f0 := hpv.kb.fz (on * 3)
                  have f1 := hpv.kb.fz (on * 3 + 1)
                  have f2 := hpv.kb.fz (on * 3 + 2)
                  have hput := hpv.put (p1 := i' + 1 + (j' + 1)) (by omega) (by have := HON.out; omega) (by have := HN.out; omega) (by have := HN.out; omega)
                  rw [← HCE.out, ← HON.out] at hput
                  have HPUT := hide hput
                  have HBV : Hid (Below base w (st3 V g (on * 3) (c1, c2, c3))) := by
                    apply hide
                    have h1 : Below base w V := HBQ.out.trans (HGV.out.below.mono (Nat.le_trans HBB.out HBQ2.out))
                    refine Below.gr h1 (Nat.le_trans HBB.out h1.size) st3_grown fun r hr => ?_
                    rw [← Option.some.inj hr]
                    exact HBG.out
                  have HWo : Hid (wrap64 ((on : Int) + 1) = (on : Int) + 1) := by apply hide; rw [← IntWalk.i64_left, IntKind.wrap_i64]; omega
                  have honz : (on : Int) < (n : Int) := by omega
                  clear hpv hcd hput
                  go_wp2_with fail
                  go_roundg (n - (i' + 1 + (j' + 1) + 1))
                  case measure => omega
                  case rel =>
                    refine ⟨out ++ [(c1, c2, c3)], j' + 1 + 1, by rw [List.length_append, ← HON.out]; first | (rw [HWo.out]; rfl) | rfl, by first | (rw [HW3.out]; rfl) | rfl, by omega, by omega, by omega, by rw [List.length_append, ← HON.out]; simp; omega, ?_, ?_, HBV⟩
                    · apply hide
                      have := HPUT.out
                      rw [show i' + 1 + (j' + 1) = i' + (j' + 1 + 1) by omega] at this
                      exact this
                    · exact (HOUT.out.step HDE.out HCE.out (stn_of HN2.out (fun q => by simp only [Prod.mk.injEq] at q; omega)))
                · refine wp_region_quiet_grown (by assumption) (by kernel_rfl) ?_
                  repeat (go_big_quiet_step (first | fail))
                  refine wpQuiet_nil ?_
                  intro V hw'
                  obtain ⟨⟨nq, osq⟩, hw''⟩ := hw'
                  have HGV : Hid (Grows wq V) := by apply hide; rw [hw'']; exact ⟨nq, osq, rfl⟩
                  clear hw'' x0 x1 x2 y0 y1 y2
                  have HBV : Hid (Below base w V) := HBQ.out.trans (HGV.out.below.mono (Nat.le_trans HBB.out HBQ2.out))
                  go_wp2_with fail
                  go_roundg (n - (i' + 1 + (j' + 1) + 1))
                  case measure => omega
                  case rel =>
                    refine ⟨out, j' + 1 + 1, by rw [HON.out], by first | (rw [HW3.out]; rfl) | rfl, by omega, by omega, by omega, by have := HON.out; omega, ?_, ?_, HBV⟩
                    · exact (HPQ.out.up HGV.out.below).later (by omega)
                    · exact HOUT.out.keep HDE.out HCE.out
              · have hjz : ¬ (j : Int) < ((n - (i' + 1) : Nat) : Int) := by omega
                have hjE : i' + 1 + j = n := by omega
                have hkb := HPQ.out.kb
                obtain ⟨w5, hrun, g5, kb5, hc5⟩ := run_clearK wq 0 g (on * 3) (n - on) (cap - on) cap (by omega) hkb (by omega)
                have HCL : Hid (CpP w base l (.returned (.slice (some ⟨g, 0, none⟩) on cap)) w5) := by
                  apply hide
                  refine ⟨_, out, rfl, HOUT.out.rise, fun k => ?_, by have := HON.out; have := HN.out; omega, ?_, ?_⟩
                  · rw [HOUT.out.mem k, List.take_of_length_le (by have := HN.out; omega)]
                  · refine rds_at HON.out.symm (by omega) HCM.out fun p hp => ?_
                    have ho := HPQ.out.o p hp
                    have hpo : p < on := by rw [HON.out]; exact hp
                    exact ⟨(hc5 _ (by omega)).trans ho.c0, (hc5 _ (by omega)).trans ho.c1, (hc5 _ (by omega)).trans ho.c2⟩
                  · exact Below.gr HBQ.out (Nat.le_trans HBB.out HBQ.out.size) g5 fun r hr => by rw [← Option.some.inj hr]; exact HBG.out
                have ho1 : (on : Int) ≤ (n : Int) := by omega
                have ho2 : ¬ cap = on := by omega
                have ho3 : on ≤ n := by omega
                have ho4 : (on : Int) ≤ (cap : Int) := by omega
                clear hkb g5 kb5 hc5
                go_wp2_with fail
                go_ret
                exact HCL.out
        · have hltz : ¬ (i : Int) < (n : Int) := by omega
          have HE : Hid (CpP w base l (.returned (.slice (some ⟨g, 0, none⟩) n cap)) wr) := by
            apply hide
            have hp := HP.out
            rw [List.take_of_length_le (by have := HN.out; omega)] at hp
            have hrd := HRD0.out
            refine ⟨_, l, rfl, hp, fun _ => Iff.rfl, Nat.le_refl _, hrd.below HG.out.below, ?_⟩
            exact HG.out.below.mono HBB.out
          go_wp2_with fail
          go_ret
          exact HE.out
end Go.Proofs.Ytgbmigfamefenaa
