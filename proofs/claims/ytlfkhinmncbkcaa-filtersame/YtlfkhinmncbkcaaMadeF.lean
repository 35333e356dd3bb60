/- The contract of allMade, by what made does. -/
import Derived.Test.YtlfkhinmncbkcaaOwnF
import Derived.Test.YtlfkhinmncbkcaaClo
namespace Go.Proofs.Ytlfkhinmncbkcaa
open Go.RowKit Go.Sort

theorem Keeps.refl (B : Nat) (w : World) : Keeps B w w := fun _ _ _ => rfl
theorem Keeps.setCell {B : Nat} {w w' : World} (h : Keeps B w w') {a : Addr} (ha : a.block < B) (u : Value) : Keeps B w (w'.setCell a u) := fun k h1 h2 => by
  rw [Below.heap_setCell _ _ _ _ (by omega)]; exact h k h1 h2
theorem Keeps.alloc {B : Nat} {w w' : World} (h : Keeps B w w') (hs : w.heap.size ≤ w'.heap.size) (o : Obj) : Keeps B w (w'.alloc o) := fun k h1 h2 => by
  rw [Below.heap_alloc _ _ _ (by omega)]; exact h k h1 h2
theorem Keeps.of_below {B : Nat} {w w' : World} (h : Below w.heap.size w w') : Keeps B w w' := fun k _ h2 => h.block k h2
theorem Keeps.trans {B : Nat} {a b c : World} (h : Keeps B a b) (k : Keeps B b c) (hs : a.heap.size ≤ b.heap.size) : Keeps B a c := fun j h1 h2 => by
  rw [k j h1 (by omega)]; exact h j h1 h2
theorem ownK_below {w w' : World} {base e k n : Nat} {v : Value} {xs : List Value} (h : w.ownsRow base e k v n xs) (hb : Below w.heap.size w w') : w'.ownsRow base e k v n xs := by
  refine ⟨h.1, ?_⟩
  rcases h.2 with h2 | ⟨g, cap, cur, h1, h2, h3, h4⟩
  · exact .inl h2
  · refine .inr ⟨g, cap, cur, h1, h2, ?_, h4⟩
    rw [hb.block g (Array.getElem?_eq_some_iff.1 h3).1]
    exact h3
theorem stored6 {w : World} {base e g n cap : Nat} {xs : List Value} (h : w.ownsRow base e 6 (.slice (some ⟨g, 0, none⟩) n cap) n xs) (o : Nat) (x0 x1 x2 x3 x4 x5 : Value) :
    ((((((w.setCell ⟨g, o, none⟩ x0).setCell ⟨g, o + 1, none⟩ x1).setCell ⟨g, o + 2, none⟩ x2).setCell ⟨g, o + 3, none⟩ x3).setCell ⟨g, o + 4, none⟩ x4).setCell ⟨g, o + 5, none⟩ x5).ownsRow base e 6 (.slice (some ⟨g, 0, none⟩) n cap) n ((((((xs.set o x0).set (o + 1) x1).set (o + 2) x2).set (o + 3) x3).set (o + 4) x4).set (o + 5) x5) := by
  have h1 := h.stored o x0
  have h2 := h1.1.stored (o + 1) x1
  have h3 := h2.1.stored (o + 2) x2
  have h4 := h3.1.stored (o + 3) x3
  have h5 := h4.1.stored (o + 4) x4
  have h6 := h5.1.stored (o + 5) x5
  exact h6.1
theorem keep6 {w : World} {B g : Nat} (hg : g < B) (o0 o1 o2 o3 o4 o5 : Nat) (x0 x1 x2 x3 x4 x5 : Value) :
    Keeps B w ((((((w.setCell ⟨g, o0, none⟩ x0).setCell ⟨g, o1, none⟩ x1).setCell ⟨g, o2, none⟩ x2).setCell ⟨g, o3, none⟩ x3).setCell ⟨g, o4, none⟩ x4).setCell ⟨g, o5, none⟩ x5) :=
  (((((((Keeps.refl B w).setCell hg x0).setCell hg x1).setCell hg x2).setCell hg x3).setCell hg x4).setCell hg x5)
theorem below6 {a w : World} {B g : Nat} (h : Below B a w) (hg : B ≤ g) (o0 o1 o2 o3 o4 o5 : Nat) (x0 x1 x2 x3 x4 x5 : Value) :
    Below B a ((((((w.setCell ⟨g, o0, none⟩ x0).setCell ⟨g, o1, none⟩ x1).setCell ⟨g, o2, none⟩ x2).setCell ⟨g, o3, none⟩ x3).setCell ⟨g, o4, none⟩ x4).setCell ⟨g, o5, none⟩ x5) :=
  ((((((h.setCell hg x0).setCell hg x1).setCell hg x2).setCell hg x3).setCell hg x4).setCell hg x5)
theorem size6 {w : World} {g : Nat} (o0 o1 o2 o3 o4 o5 : Nat) (x0 x1 x2 x3 x4 x5 : Value) :
    ((((((w.setCell ⟨g, o0, none⟩ x0).setCell ⟨g, o1, none⟩ x1).setCell ⟨g, o2, none⟩ x2).setCell ⟨g, o3, none⟩ x3).setCell ⟨g, o4, none⟩ x4).setCell ⟨g, o5, none⟩ x5).heap.size = w.heap.size := by simp
theorem tvs_cons (a : Tr) (l : List Tr) : tvs (a :: l) = a.cells ++ tvs l := rfl
theorem tvs_set : ∀ (l : List Tr) (i : Nat) (t : Tr), i < l.length → tvs (l.set i t) = ((((((tvs l).set (i * 6) (.int .i64 t.k)).set (i * 6 + 1) (.int .i64 t.d)).set (i * 6 + 2) t.tv).set (i * 6 + 3) (.int .i64 t.lo)).set (i * 6 + 4) (.int .i64 t.hi)).set (i * 6 + 5) t.kv
  | a :: l, 0, t, _ => by
    rw [List.set_cons_zero, tvs_cons, tvs_cons]
    simp [Tr.cells]
  | a :: l, i + 1, t, h => by
    have ih := tvs_set l i t (by simpa using h)
    rw [List.set_cons_succ, tvs_cons, tvs_cons, ih]
    have g : ∀ (c : Nat) (u : Value) (xs : List Value), (a.cells ++ xs).set ((i + 1) * 6 + c) u = a.cells ++ xs.set (i * 6 + c) u := fun c u xs => by
      rw [List.set_append_right _ _ (by simp [Tr.cells]; omega)]
      congr 2
      simp [Tr.cells]
      omega
    have g0 := g 0
    simp only [Nat.add_zero] at g0
    rw [g0, g 1, g 2, g 3, g 4, g 5]
def tr0 : Tr := .mk 0 0 sn [] 0 0 sn []
theorem made_tvs (n : Nat) : (madeCells (Value.agg #[.int .i64 0, .int .i64 0, .slice none 0 0, .int .i64 0, .int .i64 0, .slice none 0 0]).cells (n * 6)).toList = tvs (List.replicate n tr0) := by
  apply List.ext_getElem?
  intro j
  by_cases hj : j < n * 6
  · have h1 : j / 6 < (List.replicate n tr0).length := by simp; omega
    have e := tvs_get (List.replicate n tr0) (j / 6) (j % 6) h1 (by omega)
    rw [show j / 6 * 6 + j % 6 = j by omega] at e
    rw [e]
    have h4 : j % 6 = 0 ∨ j % 6 = 1 ∨ j % 6 = 2 ∨ j % 6 = 3 ∨ j % 6 = 4 ∨ j % 6 = 5 := by omega
    rcases h4 with h | h | h | h | h | h <;> simp [madeCells, hj, h, tr0, Tr.cells, Value.cells, Tr.k, Tr.d, Tr.tv, Tr.lo, Tr.hi, Tr.kv]
  · rw [List.getElem?_eq_none (by simp [madeCells]; omega), List.getElem?_eq_none (by rw [tvs_length]; simp; omega)]
theorem mix_set (l' : List Tr) (n i : Nat) (t : Tr) (hl : l'.length = i) (h : i < n) : (l' ++ List.replicate (n - i) tr0).set i t = (l' ++ [t]) ++ List.replicate (n - (i + 1)) tr0 := by
  rw [List.set_append_right _ _ (by omega), List.append_assoc]
  congr 1
  have e : n - i = (n - (i + 1)) + 1 := by omega
  rw [e, List.replicate_succ, show i - l'.length = 0 by omega]
  rfl
theorem szL_len (l : List Tr) : l.length ≤ szL l := by
  unfold szL
  induction l with
  | nil => simp
  | cons a l ih => have := a.sz_eq; simp only [List.length_cons, List.map_cons, List.sum_cons]; omega
theorem szL_at (l : List Tr) (i : Nat) (hil : i < l.length) : l[i].sz ≤ szL l := by
  have h1 := szL_take l i hil
  have h2 : szL (l.take (i + 1)) ≤ szL l := by
    conv => rhs; rw [← List.take_append_drop (i + 1) l]
    unfold szL; rw [List.map_append, List.sum_append]; omega
  omega
theorem Try.info_filter : (Try.prog.info? 27).map (fun i => (i.zero, i.size, i.bytes)) = some (some (.agg #[.int .i64 0, .int .i64 0, .slice none 0 0, .int .i64 0, .int .i64 0, .slice none 0 0]), 6, 80) := by kernel_rfl

/-- What made promises of trees below N. -/
def MadeC (N : Nat) : Prop := ∀ t : Tr, SizeOf.sizeOf t < N → ∀ (b : Bool) (w : World), t.Ok w → t.Lim → t.sz ≤ 1000 →
  Calls Try.prog 31 #[.agg #[.int .i64 t.k, .int .i64 t.d, t.tv, .int .i64 t.lo, .int .i64 t.hi, t.kv], .bool b] w fun e w' =>
    ∃ t' : Tr, e = .returned (.agg #[.int .i64 t'.k, .int .i64 t'.d, t'.tv, .int .i64 t'.lo, .int .i64 t'.hi, t'.kv]) ∧ t'.Ok w' ∧ t'.From w.heap.size ∧ t'.er = t.turn b ∧ Below w.heap.size w w'

set_option maxHeartbeats 8000000 in
theorem allmade_of (N : Nat) (ih : MadeC N) (b : Bool) (l : List Tr) (hl : ∀ t ∈ l, SizeOf.sizeOf t < N) (w : World) (v : Value) (h : RdsT w v l) (hlim : ∀ t ∈ l, t.Lim) (hz : szL l ≤ 1000) :
    Calls Try.prog 42 #[.bool b, v] w fun e w' => ∃ n c, e = .returned (.slice (some ⟨w.heap.size, 0, none⟩) n c) ∧ ∃ l', RdsT w' (.slice (some ⟨w.heap.size, 0, none⟩) n c) l' ∧ (∀ t ∈ l', t.From w.heap.size) ∧ l'.map Tr.er = l.map (fun t => t.turn b) ∧ Below w.heap.size w w' := by
  obtain ⟨i0, hi, hy0, hy1, hy2⟩ := info_parts Try.info_filter
  obtain ⟨ao, n, cap, rfl⟩ := h.sl
  obtain ⟨hn, hc1, hc2⟩ := h.len
  unfold maxLen at hc2
  have hn1 : n ≤ 1000 := by have := szL_len l; omega
  have HN : Hid (n = l.length) := hn
  have HH : Hid (RdsT w (.slice ao n cap) l) := h
  have HI : Aside (MadeC N) := ih
  have HL : Aside (∀ t ∈ l, SizeOf.sizeOf t < N ∧ t.Lim) := fun t ht => ⟨hl t ht, hlim t ht⟩
  have HZ : Hid (szL l ≤ 1000) := hz
  clear h hn ih hl hlim hz
  go_enter Try.func42, Try.ntmps42
  go_wp2_with (first
    | (at_make; refine wpList_make_full _ rfl _ _ 25 rfl w.heap.size 27 i0 (.agg #[.int .i64 0, .int .i64 0, .slice none 0 0, .int .i64 0, .int .i64 0, .slice none 0 0]) 6 Try.underlying25 hi hy0 hy1 .i64 .i64 _ _ n rfl rfl (by omega) (by omega) (by rw [hy2]; omega) (by unfold maxLen; omega) (Nat.le_refl _) ?_; intro w0 hown0 hgrow0))
  have hb0 : Below w.heap.size w w0 := (Below.refl _ _).grown hgrow0 (Nat.le_refl _) (by simp)
  rw [made_tvs] at hown0
  clear hgrow0
  go_loopg [13] n (fun kx vi wr => ∃ (i : Nat) (l' : List Tr), vi = .int .i64 i ∧ i ≤ n ∧ n - i ≤ kx ∧ Hid (l'.length = i) ∧ wr.ownsRow w.heap.size 27 6 (.slice (some ⟨w.heap.size, 0, none⟩) n n) n (tvs (l' ++ List.replicate (n - i) tr0)) ∧
    Hid (∀ t ∈ l', t.Ok wr ∧ t.From (w.heap.size + 1)) ∧ Hid (l'.map Tr.er = (l.take i).map fun t => t.turn b) ∧ Below w.heap.size w wr)
  case atStart => exact ⟨0, [], rfl, by omega, Nat.le_refl _, rfl, hown0, (fun t ht => by cases ht), (show _ = _ from rfl), hb0⟩
  case round =>
    clear hown0 hb0
    obtain ⟨i, l', rfl, hi', hkx, HLL, hown, HOK, HER, hbel⟩ := hrel
    by_cases hlt : i < n
    · have hlt' : (i : Int) < (n : Int) := by omega
      have hil : i < l.length := by have := HN.out; omega
      have hr := RdsT.below HH.out hbel
      obtain ⟨bk, off, rfl, hcell⟩ := hr.at (by omega)
      obtain ⟨q0, q1, q2, q3, q4, q5⟩ := hcell i hil
      have ok := hr.ok l[i] (List.getElem_mem hil)
      obtain ⟨hsz, lim⟩ := HL.out l[i] (List.getElem_mem hil)
      have hxs := Nat.le_trans (szL_at l i hil) HZ.out
      have htk : (l.take (i + 1)).map (fun t => t.turn b) = (l.take i).map (fun t => t.turn b) ++ [l[i].turn b] := by rw [List.take_succ_eq_append_getElem hil, List.map_append]; rfl
      generalize l[i] = x at *
      obtain ⟨at', nt, ct, ak, nk, ck, e1, e2, -, -, -, -⟩ := ok.lens
      obtain ⟨V, hV⟩ : ∃ V, V = wr.alloc (.cells #[.int .i64 x.k, .int .i64 x.d, x.tv, .int .i64 x.lo, .int .i64 x.hi, x.kv] 27) := ⟨_, rfl⟩
      have gV : Grows wr V := by rw [hV]; exact Grows.alloc _ _
      have kM := HI.out x hsz b V (ok.up gV.below) lim hxs
      have ownV : V.ownsRow w.heap.size 27 6 (.slice (some ⟨w.heap.size, 0, none⟩) n n) n (tvs (l' ++ List.replicate (n - i) tr0)) := by rw [hV]; exact hown.alloc _
      have HOV : Hid _ := ownV
      have HGV : Hid (Grows wr V) := gV
      have HV : Hid _ := hV
      have HBL : Hid (Below w.heap.size w wr) := hbel
      have HTK : Hid _ := htk
      rw [hV, e1, e2] at kM
      rw [e1, e2] at HV
      rw [e1] at q2
      rw [e2] at q5
      clear ok hsz lim hxs htk hr hcell e1 e2 hV gV ownV hown hbel
      go_wp2_with fail
      refine kM.mono ?_
      rintro e w6 ⟨t', rfl, ok', fr', er', b6⟩
      rw [← HV.out] at b6 fr'
      have own6 := ownK_below HOV.out b6
      have hsV : w.heap.size < V.heap.size := by
        have h1 := HBL.out.size
        have h2 := HGV.out.below.size
        have h3 : V.heap.size = wr.heap.size + 1 := by rw [HV.out]; simp
        omega
      have hb6 : Below w.heap.size w w6 := (HBL.out.trans (HGV.out.below.mono HBL.out.size)).trans (b6.mono (Nat.le_of_lt hsV))
      have hfz := fun j => own6.frozenAt j
      have hcs : ∀ c, c < 6 → ∃ u, w6.cell? ⟨w.heap.size, i * 6 + c, none⟩ = some u := fun c hc => by
        rw [own6.cellAt (i * 6 + c) (by omega)]
        have : i * 6 + c < (tvs (l' ++ List.replicate (n - i) tr0)).length := by rw [tvs_length]; simp; have := HLL.out; omega
        exact ⟨_, List.getElem?_eq_getElem this⟩
      obtain ⟨x0, p0⟩ := hcs 0 (by omega)
      obtain ⟨x1, p1⟩ := hcs 1 (by omega)
      obtain ⟨x2, p2⟩ := hcs 2 (by omega)
      obtain ⟨x3, p3⟩ := hcs 3 (by omega)
      obtain ⟨x4, p4⟩ := hcs 4 (by omega)
      obtain ⟨x5, p5⟩ := hcs 5 (by omega)
      rw [Nat.add_zero] at p0
      have hms := mix_set l' n i t' HLL.out hlt
      have hes := tvs_set (l' ++ List.replicate (n - i) tr0) i t' (by simp; have := HLL.out; omega)
      rw [hms] at hes
      have hst := stored6 own6 (i * 6) (.int .i64 t'.k) (.int .i64 t'.d) t'.tv (.int .i64 t'.lo) (.int .i64 t'.hi) t'.kv
      rw [← hes] at hst
      have hkp := keep6 (w := w6) (Nat.lt_succ_self w.heap.size) (i * 6) (i * 6 + 1) (i * 6 + 2) (i * 6 + 3) (i * 6 + 4) (i * 6 + 5) (.int .i64 t'.k) (.int .i64 t'.d) t'.tv (.int .i64 t'.lo) (.int .i64 t'.hi) t'.kv
      have hbl := below6 (g := w.heap.size) hb6 (Nat.le_refl _) (i * 6) (i * 6 + 1) (i * 6 + 2) (i * 6 + 3) (i * 6 + 4) (i * 6 + 5) (.int .i64 t'.k) (.int .i64 t'.d) t'.tv (.int .i64 t'.lo) (.int .i64 t'.hi) t'.kv
      have hko : ∀ t ∈ l' ++ [t'], t.Ok w6 ∧ t.From (w.heap.size + 1) := fun t ht => by
        rcases List.mem_append.1 ht with ht | ht
        · exact ⟨((HOK.out t ht).1.up HGV.out.below).up b6, (HOK.out t ht).2⟩
        · simp only [List.mem_singleton] at ht
          subst ht
          exact ⟨ok', fr'.mono hsV⟩
      have her : (l' ++ [t']).map Tr.er = (l.take (i + 1)).map fun t => t.turn b := by rw [HTK.out, List.map_append, HER.out, ← er']; rfl
      obtain ⟨at5, nt5, ct5, ak5, nk5, ck5, f1, f2, -, -, -, -⟩ := ok'.lens
      have HST : Hid _ := hst
      have HKP : Hid _ := hkp
      have HBL' : Hid _ := hbl
      have HKO : Hid _ := hko
      have HERR : Hid _ := her
      have HL2 : Hid ((l' ++ [t']).length = i + 1) := by show _ = _; simp; exact HLL.out
      rw [f1, f2] at HST HKP HBL' ⊢
      clear kM ok' fr' er' b6 own6 hcs hms hes hst hkp hbl hko her hb6 hsV f1 f2 q0 q1 q2 q3 q4 q5
      go_wp2_with fail
      go_roundg (n - (i + 1))
      case measure => omega
      case rel => exact ⟨i + 1, l' ++ [t'], by go_num, by omega, Nat.le_refl _, HL2, HST.out, (fun t ht => ⟨(HKO.out t ht).1.keep HKP.out (HKO.out t ht).2, (HKO.out t ht).2⟩), HERR, HBL'.out⟩
    · have hlt' : ¬ (i : Int) < (n : Int) := by omega
      have hin : n - i = 0 := by omega
      rw [hin, List.replicate_zero, List.append_nil] at hown
      have hln : l'.length = n := by have := HLL.out; omega
      have hrd : RdsT wr (.slice (some ⟨w.heap.size, 0, none⟩) n n) l' := ⟨by rw [hln]; exact RdsK.of_own hown, fun t ht => (HOK.out t ht).1⟩
      have HR : Hid _ := hrd
      have HE2 : Hid (l'.map Tr.er = l.map fun t => t.turn b) := by
        show _ = _
        rw [HER.out, List.take_of_length_le (by have := HN.out; omega)]
      have HBL : Hid (Below w.heap.size w wr) := hbel
      clear hown hln hrd hin hbel
      go_wp2_with fail
      go_ret
      exact ⟨n, n, rfl, l', HR.out, fun t ht => (HOK.out t ht).2.mono (Nat.le_succ _), HE2.out, HBL.out⟩
end Go.Proofs.Ytlfkhinmncbkcaa
