/- The library's sort at rows of spans by their beginnings; slices.SortedFunc over maps.Keys. -/
import Derived.Test.YtmnlkmgpikilbaaIts
import Derived.Test.YtmnlkmgpikilbaaGro
import Derived.Shelf.SlSortCmp.WholeK
import Derived.Shelf.Lay
import Derived.Ground.SlsfProg
namespace Go.Proofs.Ytmnlkmgpikilbaa
open Go.Shelf Go.RowKit Go.Lib Go.Sort Go.Maps
set_option linter.unusedVariables false
set_option linter.unusedSimpArgs false
shelf_lay_g SlLaysF0.n6 Slsf 6 at Try 54 as sortL

theorem kcs_get (l : List K2) (i c : Nat) (hi : i < l.length) (hc : c < 2) : (kcs l)[i * 2 + c]? = (kc l[i])[c]? := by
  induction l generalizing i with
  | nil => simp at hi
  | cons a l ih =>
    have hl : (kc a).length = 2 := rfl
    cases i with
    | zero =>
      show (kc a ++ kcs l)[0 * 2 + c]? = _
      rw [List.getElem?_append_left (by rw [hl]; omega)]
      simp
    | succ i =>
      show (kc a ++ kcs l)[(i + 1) * 2 + c]? = _
      rw [List.getElem?_append_right (by rw [hl]; omega), hl, show (i + 1) * 2 + c - 2 = i * 2 + c by omega, ih i (by simpa using hi)]
      rfl
def OwK (w : World) (base : Nat) (v : Value) (l : List K2) : Prop := w.ownsRow base 67 2 v l.length (kcs l)
def cmpK (x y : K2) : Int := if x.1 < y.1 then -1 else if y.1 < x.1 then 1 else 0
theorem isNaN_any (w : World) (x : Int) : Calls Try.prog 60 #[.int .i64 x] w fun e w' => e = .returned (.bool false) ∧ w' = w := by
  go_enter Try.func60, Try.ntmps60
  go_wp2_with fail
  go_ret
  exact ⟨rfl, rfl⟩
theorem cmp_any (w : World) (x y : Int) : Calls Try.prog 56 #[.int .i64 x, .int .i64 y] w fun e w' => e = .returned (.int .i64 (if x < y then -1 else if y < x then 1 else 0)) ∧ w' = w := by
  by_cases h1 : x < y
  · go_enter Try.func56, Try.ntmps56
    go_wp2_with (go_at_call 60; refine (isNaN_any _ _).mono ?_; rintro e w1 ⟨rfl, hw1⟩; have hw1 := hw1.symm; subst hw1)
    go_ret
    exact ⟨by first | rfl | (simp; done) | (simp; omega), rfl⟩
  · by_cases h2 : y < x
    · go_enter Try.func56, Try.ntmps56
      go_wp2_with (go_at_call 60; refine (isNaN_any _ _).mono ?_; rintro e w1 ⟨rfl, hw1⟩; have hw1 := hw1.symm; subst hw1)
      go_ret
      exact ⟨by first | rfl | (simp; done) | (simp; omega), rfl⟩
    · go_enter Try.func56, Try.ntmps56
      go_wp2_with (go_at_call 60; refine (isNaN_any _ _).mono ?_; rintro e w1 ⟨rfl, hw1⟩; have hw1 := hw1.symm; subst hw1)
      go_ret
      exact ⟨by first | rfl | (simp; done) | (simp; omega), rfl⟩
theorem byTime_any (w : World) (x y : K2) : Calls Try.prog 51 #[.agg #[.int .i64 x.1, .int .i64 x.2], .agg #[.int .i64 y.1, .int .i64 y.2]] w fun e w' => e = .returned (.int .i64 (cmpK x y)) ∧ Grows w w' := by
  have kC := fun W => cmp_any W x.1 y.1
  unfold cmpK
  obtain ⟨z, hz⟩ : ∃ z : Int, z = if x.1 < y.1 then -1 else if y.1 < x.1 then 1 else 0 := ⟨_, rfl⟩
  rw [← hz] at kC ⊢
  clear hz
  go_enter Try.func51, Try.ntmps51
  go_wp2_with (go_at_call 56; refine (kC _).mono ?_; rintro e w1 ⟨he1, hw1⟩; have hw1 := hw1.symm; subst he1; subst hw1)
  go_ret
  exact ⟨rfl, (Grows.alloc w _).trans (Grows.alloc _ _)⟩
theorem clo_any (x y : K2) (W : World) : Calls Try.prog 51 #[.agg #[.int .i64 x.1, .int .i64 x.2], .agg #[.int .i64 y.1, .int .i64 y.2]] W fun e w' => e = .returned (.int .i64 (cmpK x y)) ∧ ∃ q os', w' = grow (W.drewN q) os' :=
  (byTime_any W x y).mono fun _ _ ⟨h1, h2⟩ => ⟨h1, h2.ex⟩
theorem clo_lays (blk off size : Nat) (w : World) : CmpLays Try.prog 51 #[] kc 2 cmpK blk off size w :=
  fun _ _ _ _ x y => clo_any x y _
theorem ltK (x y : K2) : ltOf cmpK x y = decide (x.1 < y.1) := by
  unfold ltOf cmpK
  by_cases h : x.1 < y.1
  · simp [h]
  · by_cases h2 : y.1 < x.1
    · simp [h, h2]
    · simp [h, h2]
theorem swoK : SWO (ltOf cmpK) where
  irrefl x := by rw [ltK]; simp
  trans x y z h1 h2 := by rw [ltK, decide_eq_true_iff] at *; omega
  ntrans x y z h1 h2 := by rw [ltK, decide_eq_false_iff_not] at *; omega
theorem agg_key : ∀ w, (isAgg 67).run Try.prog w = .ok true w := Try.isAgg67
theorem size_key : ∀ w, (Go.sizeOf 67).run Try.prog w = .ok 2 w := Try.sizeOf67
theorem below_sortK {w : World} {base blk m : Nat} {d : Array K2} {os : Array Obj} (hb : base ≤ blk) (hsz : base ≤ w.heap.size) : Below base w (sortWorldK kc 2 w blk 0 m d os) := by
  refine ⟨rfl, rfl, rfl, ?_, fun i hi => ?_⟩
  · unfold sortWorldK; rw [size_grow, size_putRowK]; show w.heap.size ≤ w.heap.size + _; omega
  · have hne : blk ≠ i := by omega
    unfold sortWorldK
    rw [heap_grow_old _ _ (by rw [size_putRowK]; show i < w.heap.size; omega)]
    simp [putRowK, putRow, mapBlock, Sort.ahead, Array.getElem?_modify, hne]
theorem row_holds {w : World} {base g cap : Nat} {l : List K2} (hown : OwK w base (.slice (some ⟨g, 0, none⟩) l.length cap) l) : HoldsK kc 2 w g 0 l.toArray := by
  intro j hj
  rw [size_flatK] at hj
  have hj' : j < l.length * 2 := by simpa using hj
  rw [get_flatK _ _ _ _ hj, Nat.zero_add]
  refine ⟨?_, World.ownsRow.frozenAt hown j⟩
  rw [World.ownsRow.cellAt hown j hj']
  have h1 : j / 2 < l.length := by omega
  have e := kcs_get l (j / 2) (j % 2) h1 (by omega)
  rw [show j / 2 * 2 + j % 2 = j by omega] at e
  rw [e]
  have h2 : j / 2 < l.toArray.size := by simpa using h1
  rw [getElem!_pos l.toArray (j / 2) h2]
  have h4 : j % 2 < (kc l[j / 2]).length := by simp [kc]; omega
  simp only [List.getElem_toArray]
  rw [getElem!_pos (kc l[j / 2]) (j % 2) h4, List.getElem?_eq_getElem h4]
  rfl
theorem rds_sorted {w : World} {g cap m : Nat} {d0 d : Array K2} {os : Array Obj} (hH : HoldsK kc 2 w g 0 d0) (hg : g < w.heap.size) (hs : d.size = d0.size) (hc : d.size ≤ cap) (hm : cap ≤ maxLen) :
    RdsK 2 (sortWorldK kc 2 w g 0 m d os) (.slice (some ⟨g, 0, none⟩) d.size cap) d.size (kcs d.toList) := by
  have S : SWK kc 2 w g 0 d (sortWorldK kc 2 w g 0 m d os) := ⟨m, os, rfl⟩
  refine ⟨some ⟨g, 0, none⟩, cap, by simp, by rw [kcs_length]; simp, hc, hm, (fun h => by cases h), ?_⟩
  rintro ad ⟨rfl⟩ j u hj
  have hl : j < d.size * 2 := by
    have := (List.getElem?_eq_some_iff.1 hj).1
    rw [kcs_length] at this
    simpa using this
  have h1 : j / 2 < d.toList.length := by simp; omega
  have e := kcs_get d.toList (j / 2) (j % 2) h1 (by omega)
  rw [show j / 2 * 2 + j % 2 = j by omega, hj] at e
  have hh := S.holds hg hH hs j (by rw [size_flatK]; exact hl)
  rw [get_flatK _ _ _ _ hl, Nat.zero_add] at hh
  rw [Addr.add_lit, Nat.zero_add, hh.1]
  have h2 : j / 2 < d.size := by omega
  rw [getElem!_pos d _ h2]
  have h4 : j % 2 < (kc d[j / 2]).length := by simp [kc]; omega
  have e2 : d.toList[j / 2] = d[j / 2] := by simp
  rw [e2, List.getElem?_eq_getElem h4] at e
  rw [getElem!_pos (kc d[j / 2]) (j % 2) h4]
  exact e.symm
theorem rise_of {d : Array K2} (h : SortedIn (ltOf cmpK) 0 d.size d) : d.toList.Pairwise fun a b => ¬ b.1 < a.1 := by
  refine List.pairwise_iff_getElem.2 fun i j hi hj hij => ?_
  have hj' : j < d.size := by simpa using hj
  have hi' : i < d.size := by simpa using hi
  have := h i j (Nat.zero_le _) hij hj'
  rw [getElem!_pos d i hi', getElem!_pos d j hj', ltK] at this
  have := of_decide_eq_false this
  simpa using this
set_option maxHeartbeats 800000 in
theorem sort_any (w : World) (base : Nat) (v : Value) (l : List K2) (hown : OwK w base v l) (hbs : base ≤ w.heap.size) (hlen : l.length < 4611686018427387904) :
    Calls Try.prog 54 #[v, .func (.func 51) #[] #[]] w fun e w' => e = .returned (.tuple #[]) ∧ ∃ l', l'.Perm l ∧ (l'.Pairwise fun a b => a.1 ≤ b.1) ∧ RdsK 2 w' v l'.length (kcs l') ∧ Below base w w' := by
  rcases hown.2 with ⟨rfl, hn⟩ | ⟨g, cap, cur, rfl, hbg, hg, hnc, hcm, hcs, htake⟩
  · have hl : l = [] := List.eq_nil_of_length_eq_zero hn
    subst hl
    have hI : ∀ W, Calls Try.prog 61 #[.slice none 0 0, .int .i64 0, .int .i64 0, .func (.func 51) #[] #[]] W fun e w' => e = .returned (.tuple #[]) ∧ w' = W := fun W => by
      go_enter Try.func61, Try.ntmps61
      go_wp2_with fail
      refine wp_loop_rounds 1 ?_
      rw [rounds_succ]
      go_wp2_with fail
      go_end0
      exact ⟨rfl, rfl⟩
    have hP : ∀ W, Calls Try.prog 58 #[.slice none 0 0, .int .i64 0, .int .i64 0, .int .i64 (Lib.bitLen 0 : Nat), .func (.func 51) #[] #[]] W fun e w' => e = .returned (.tuple #[]) ∧ w' = W := fun W => by
      go_enter Try.func58, Try.ntmps58
      go_wp2_with fail
      refine wp_loop_rounds 1 ?_
      rw [rounds_succ]
      go_wp2_with (go_at_call 61; refine (hI _).mono ?_; rintro e w' ⟨rfl, rfl⟩)
      (try simp only [Exit.inBlock, Exit.then]); refine bodyPost_ret (results_none rfl _ _ _) rfl ?_
      exact ⟨rfl, rfl⟩
    have hB : ∀ W, Calls Try.prog 59 #[.int .u64 0] W fun e w' => e = .returned (.int .i64 (Lib.bitLen 0 : Nat)) ∧ w' = W := fun W => by
      have h := Any.bits_Len (SlLaysF0.n15.bits (P := Try.prog) (ρ := sortL_ren) { sortL with }) 0 W (by omega) (by omega)
      exact h
    go_enter Try.func54, Try.ntmps54
    go_wp2_with (first | (go_at_call 59; refine (hB _).mono ?_; rintro e w' ⟨rfl, rfl⟩) | (go_at_call 58; refine (hP _).mono ?_; rintro e w' ⟨rfl, rfl⟩))
    go_end0
    first | exact ⟨rfl, [], List.Perm.refl _, List.Pairwise.nil, RdsK.nil _ _, Below.refl _ _⟩ | exact ⟨rfl, RdsK.nil _ _, Below.refl _ _⟩
  · have hgl : g < w.heap.size := (Array.getElem?_eq_some_iff.1 hg).1
    have hH := row_holds hown
    have eg : ∀ args w, (callFunc 51 args).run Try.prog w = .ok (.enter 51 args) w := enters_of Try.func51 (by kernel_rfl) rfl
    have hcon := AnyQ.slices_SortFunc sortL 2 agg_key size_key kc (fun _ => rfl) (fun x v hv => by simp [kc] at hv; rcases hv with rfl | rfl <;> rfl) cmpK swoK 51 #[] g 0 cap l.toArray w eg (clo_lays g 0 _ w) hH hgl (by simpa using hlen)
    change Calls Try.prog 54 _ _ _ at hcon
    have hsz : l.toArray.size = l.length := by simp
    rw [hsz] at hcon
    refine hcon.mono ?_
    rintro e w' ⟨rfl, d', n, os, hp, hs, rfl⟩
    have hd : d'.size = l.length := hp.1.trans hsz
    have hbb := below_sortK (w := w) (m := n) (d := d') (os := os) hbg hbs
    refine ⟨rfl, d'.toList, ?_, ?_, ?_, hbb⟩
    · have h2 := hp.2.2
      rw [Array.extract_eq_self_of_le (by omega), Array.extract_eq_self_of_le (by simp)] at h2
      simpa using h2
    · rw [← hd] at hs
      exact (rise_of hs).imp fun h => by omega
    · have := rds_sorted (m := n) (os := os) hH hgl (hd.trans hsz.symm) (cap := cap) (by omega) hcm
      rw [hd] at this
      simpa [hd] using this
theorem collect_any (w : World) (Bm b nn : Nat) (D0 : DataW Unit) (hm : w.cell? ⟨Bm, 0, none⟩ = some (.map (some b))) (hown : w.ownsMap Try.prog 67 sel b nn D0) (hN : Maps.size D0 ≤ 1000000) :
    Calls Try.prog 53 #[.func (.func 55) #[] #[.pointer (some ⟨Bm, 0, none⟩)]] w fun e w' => ∃ (v : Value) (ss : List K2), e = .returned v ∧ Col D0 (fun _ => false) ss ∧ w'.ownsRow w.heap.size 67 2 v ss.length (kcs ss) ∧ ss.length ≤ 1000000 ∧ Below w.heap.size w w' := by
  have kA := callsIn_wide.1 (appendSeq_in Fence.wide 2 trivial rfl (Nat.le_refl _) 55 #[.pointer (some ⟨Bm, 0, none⟩)] trivial (enters_of Try.func55 (by kernel_rfl) rfl) (Col D0 fun _ => false) (Maps.size D0) hN w fun w' hb => keys_stops Fence.wide 1 trivial rfl (Nat.le_refl _) Bm b nn D0 w' (Nat.lt_of_lt_of_le (World.block_lt_of_cell? _ _ hm) hb.size) (by rw [hb.cell (World.block_lt_of_cell? _ _ hm)]; exact hm) (by
    have hbl := hown.lt
    obtain ⟨es, clock, q, Ft, hs, hD⟩ := hown
    exact ⟨es, clock, (hb.block b hbl).trans q, Ft, hs, hD⟩))
  go_enter Try.func53, Try.ntmps53
  go_wp2_with (go_at_call 57; refine kA.mono ?_; rintro e w' ⟨v, ss, he, h1, h2, h4, h3⟩; subst he)
  go_ret
  exact ⟨v, ss, rfl, h1, h2, Nat.le_trans h4 hN, h3⟩
/-- slices.SortedFunc(maps.Keys(m), byTime): the map's keys, each once, by their beginnings. -/
theorem sorted_any (w : World) (Bm b nn : Nat) (D0 : DataW Unit) (hm : w.cell? ⟨Bm, 0, none⟩ = some (.map (some b))) (hown : w.ownsMap Try.prog 67 sel b nn D0) (hN : Maps.size D0 ≤ 1000000) :
    Calls Try.prog 49 #[.func (.func 55) #[] #[.pointer (some ⟨Bm, 0, none⟩)], .func (.func 51) #[] #[]] w fun e w' => ∃ (v : Value) (ss : List K2), e = .returned v ∧ Col D0 (fun _ => false) ss ∧ (ss.Pairwise fun a b => a.1 ≤ b.1) ∧ RdsK 2 w' v ss.length (kcs ss) ∧ (∃ ao c, v = .slice ao ss.length c ∧ (ao = none ∨ ∃ g, ao = some ⟨g, 0, none⟩)) ∧ ss.length ≤ 1000000 ∧ Below w.heap.size w w' := by
  have kC := collect_any w Bm b nn D0 hm hown hN
  go_enter Try.func49, Try.ntmps49
  go_wp2_with fail
  go_at_call 53
  refine kC.mono ?_
  rintro e w1 ⟨v, ss, he, h1, h2, h4, h3⟩
  subst he
  have hform : ∃ ao c, v = .slice ao ss.length c ∧ (ao = none ∨ ∃ g, ao = some ⟨g, 0, none⟩) := by
    rcases h2.2 with ⟨e1, e2⟩ | ⟨g, cap, cur, e1, _⟩
    · exact ⟨none, 0, by rw [e1, e2], .inl rfl⟩
    · exact ⟨_, cap, e1, .inr ⟨g, rfl⟩⟩
  obtain ⟨a, c, rfl, hao⟩ := hform
  have kS := sort_any w1 w.heap.size _ ss h2 h3.size (by omega)
  have H1 := hide h1
  have H3 := hide h3
  have HAO := hide hao
  have H4 := hide h4
  clear h1 h2 h3 h4 kC hao
  go_wp2_with (go_at_call 54; refine kS.mono ?_; rintro e w2 ⟨he, l', hp, hs, hr, hb⟩; subst he)
  go_ret
  refine ⟨_, l', rfl, ⟨hp.nodup_iff.2 H1.out.nd, fun x hx => H1.out.b2 x (hp.mem_iff.1 hx), fun x hx => by rw [hp.mem_iff]; exact H1.out.mem x hx⟩, hs, ?_, ⟨a, c, by rw [hp.length_eq]; rfl, HAO.out⟩, by rw [hp.length_eq]; exact H4.out, H3.out.trans hb⟩
  exact hr
end Go.Proofs.Ytmnlkmgpikilbaa
