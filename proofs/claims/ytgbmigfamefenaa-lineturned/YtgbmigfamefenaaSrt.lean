/- The library's sort at rows of keys, as they stand. -/
import Derived.Test.YtgbmigfamefenaaFs2
import Derived.Shelf.SlSortCmp.WholeK
import Derived.Shelf.Lay
import Derived.Ground.SlsfProg
namespace Go.Proofs.Ytgbmigfamefenaa
open Go.Shelf Go.RowKit Go.Lib Go.Sort
set_option linter.unusedVariables false
shelf_lay_g SlLaysF0.n6 Slsf 6 at Try 35 as sortL

/-- Keys as cells. -/
def kcs (l : List K3) : List Value := l.flatMap kc
theorem kcs_length (l : List K3) : (kcs l).length = l.length * 3 := by
  unfold kcs
  induction l with
  | nil => rfl
  | cons a l ih => rw [List.flatMap_cons, List.length_append, ih]; simp [kc]; omega
theorem kcs_get (l : List K3) (i c : Nat) (hi : i < l.length) (hc : c < 3) : (kcs l)[i * 3 + c]? = (kc l[i])[c]? := by
  induction l generalizing i with
  | nil => simp at hi
  | cons a l ih =>
    have hl : (kc a).length = 3 := rfl
    cases i with
    | zero =>
      show (kc a ++ kcs l)[0 * 3 + c]? = _
      rw [List.getElem?_append_left (by rw [hl]; omega)]
      simp
    | succ i =>
      show (kc a ++ kcs l)[(i + 1) * 3 + c]? = _
      rw [List.getElem?_append_right (by rw [hl]; omega), hl, show (i + 1) * 3 + c - 3 = i * 3 + c by omega, ih i (by simpa using hi)]
      rfl
theorem kcs_append (l m : List K3) : kcs (l ++ m) = kcs l ++ kcs m := by simp [kcs]
def OwK (w : World) (base : Nat) (v : Value) (l : List K3) : Prop := w.ownsRow base 55 3 v l.length (kcs l)
theorem clo_any (x y : K3) (W : World) : Calls Try.prog 36 #[.agg #[.int .i64 x.1, .int .i64 x.2.1, .int .i64 x.2.2], .agg #[.int .i64 y.1, .int .i64 y.2.1, .int .i64 y.2.2]] W fun e w' => e = .returned (.int .i64 (cmpK x y)) ∧ ∃ q os', w' = grow (W.drewN q) os' :=
  (stand_any W x y).mono fun _ _ ⟨h1, h2⟩ => ⟨h1, h2.ex⟩
theorem clo_lays (blk off size : Nat) (w : World) : CmpLays Try.prog 36 #[] kc 3 cmpK blk off size w :=
  fun _ _ _ _ x y => clo_any x y _
theorem ltK (x y : K3) : ltOf cmpK x y = decide (Stn x y) := by
  unfold ltOf
  rw [Bool.eq_iff_iff, decide_eq_true_iff, decide_eq_true_iff]
  exact std_iff x y
theorem swoK : SWO (ltOf cmpK) where
  irrefl x := by rw [ltK]; simp [Stn]
  trans x y z h1 h2 := by rw [ltK, decide_eq_true_iff] at *; unfold Stn at *; omega
  ntrans x y z h1 h2 := by rw [ltK, decide_eq_false_iff_not] at *; unfold Stn at *; omega
theorem agg_key : ∀ w, (isAgg 55).run Try.prog w = .ok true w := Try.isAgg55
theorem size_key : ∀ w, (Go.sizeOf 55).run Try.prog w = .ok 3 w := Try.sizeOf55
theorem below_sortK {w : World} {base blk m : Nat} {d : Array K3} {os : Array Obj} (hb : base ≤ blk) (hsz : base ≤ w.heap.size) : Below base w (sortWorldK kc 3 w blk 0 m d os) := by
  refine ⟨rfl, rfl, rfl, ?_, fun i hi => ?_⟩
  · unfold sortWorldK; rw [size_grow, size_putRowK]; show w.heap.size ≤ w.heap.size + _; omega
  · have hne : blk ≠ i := by omega
    unfold sortWorldK
    rw [heap_grow_old _ _ (by rw [size_putRowK]; show i < w.heap.size; omega)]
    simp [putRowK, putRow, mapBlock, Sort.ahead, Array.getElem?_modify, hne]
theorem row_holds {w : World} {base g cap : Nat} {l : List K3} (hown : OwK w base (.slice (some ⟨g, 0, none⟩) l.length cap) l) : HoldsK kc 3 w g 0 l.toArray := by
  intro j hj
  rw [size_flatK] at hj
  have hj' : j < l.length * 3 := by simpa using hj
  rw [get_flatK _ _ _ _ hj, Nat.zero_add]
  refine ⟨?_, World.ownsRow.frozenAt hown j⟩
  rw [World.ownsRow.cellAt hown j hj']
  have h1 : j / 3 < l.length := by omega
  have e := kcs_get l (j / 3) (j % 3) h1 (by omega)
  rw [show j / 3 * 3 + j % 3 = j by omega] at e
  rw [e]
  have h2 : j / 3 < l.toArray.size := by simpa using h1
  rw [getElem!_pos l.toArray (j / 3) h2]
  have h4 : j % 3 < (kc l[j / 3]).length := by simp [kc]; omega
  simp only [List.getElem_toArray]
  rw [getElem!_pos (kc l[j / 3]) (j % 3) h4, List.getElem?_eq_getElem h4]
  rfl
theorem rds_sorted {w : World} {g cap m : Nat} {d0 d : Array K3} {os : Array Obj} (hH : HoldsK kc 3 w g 0 d0) (hg : g < w.heap.size) (hs : d.size = d0.size) (hc : d.size ≤ cap) (hm : cap ≤ maxLen) :
    RdsK 3 (sortWorldK kc 3 w g 0 m d os) (.slice (some ⟨g, 0, none⟩) d.size cap) d.size (kcs d.toList) := by
  have S : SWK kc 3 w g 0 d (sortWorldK kc 3 w g 0 m d os) := ⟨m, os, rfl⟩
  refine ⟨some ⟨g, 0, none⟩, cap, by simp, by rw [kcs_length]; simp, hc, hm, (fun h => by cases h), ?_⟩
  rintro ad ⟨rfl⟩ j u hj
  have hl : j < d.size * 3 := by
    have := (List.getElem?_eq_some_iff.1 hj).1
    rw [kcs_length] at this
    simpa using this
  have h1 : j / 3 < d.toList.length := by simp; omega
  have e := kcs_get d.toList (j / 3) (j % 3) h1 (by omega)
  rw [show j / 3 * 3 + j % 3 = j by omega, hj] at e
  have hh := S.holds hg hH hs j (by rw [size_flatK]; exact hl)
  rw [get_flatK _ _ _ _ hl, Nat.zero_add] at hh
  rw [Addr.add_lit, Nat.zero_add, hh.1]
  have h2 : j / 3 < d.size := by omega
  rw [getElem!_pos d _ h2]
  have h4 : j % 3 < (kc d[j / 3]).length := by simp [kc]; omega
  have e2 : d.toList[j / 3] = d[j / 3] := by simp
  rw [e2, List.getElem?_eq_getElem h4] at e
  rw [getElem!_pos (kc d[j / 3]) (j % 3) h4]
  exact e.symm
theorem rise_of {d : Array K3} (h : SortedIn (ltOf cmpK) 0 d.size d) : d.toList.Pairwise fun a b => ¬ Stn b a := by
  refine List.pairwise_iff_getElem.2 fun i j hi hj hij => ?_
  have hj' : j < d.size := by simpa using hj
  have hi' : i < d.size := by simpa using hi
  have := h i j (Nat.zero_le _) hij hj'
  rw [getElem!_pos d i hi', getElem!_pos d j hj', ltK] at this
  have := of_decide_eq_false this
  simpa using this
set_option maxHeartbeats 800000 in
theorem sort_any (w : World) (base : Nat) (v : Value) (l : List K3) (hown : OwK w base v l) (hbs : base ≤ w.heap.size) (hlen : l.length < 4611686018427387904) :
    Calls Try.prog 35 #[v, .func (.func 36) #[] #[]] w fun e w' => e = .returned (.tuple #[]) ∧ ∃ l', l'.Perm l ∧ (l'.Pairwise fun a b => ¬ Stn b a) ∧ RdsK 3 w' v l'.length (kcs l') ∧ Below base w w' := by
  rcases hown.2 with ⟨rfl, hn⟩ | ⟨g, cap, cur, rfl, hbg, hg, hnc, hcm, hcs, htake⟩
  · have hl : l = [] := List.eq_nil_of_length_eq_zero hn
    subst hl
    have hI : ∀ W, Calls Try.prog 66 #[.slice none 0 0, .int .i64 0, .int .i64 0, .func (.func 36) #[] #[]] W fun e w' => e = .returned (.tuple #[]) ∧ w' = W := fun W => by
      go_enter Try.func66, Try.ntmps66
      go_wp2_with fail
      refine wp_loop_rounds 1 ?_
      rw [rounds_succ]
      go_wp2_with fail
      go_end0
      exact ⟨rfl, rfl⟩
    have hP : ∀ W, Calls Try.prog 52 #[.slice none 0 0, .int .i64 0, .int .i64 0, .int .i64 (Lib.bitLen 0 : Nat), .func (.func 36) #[] #[]] W fun e w' => e = .returned (.tuple #[]) ∧ w' = W := fun W => by
      go_enter Try.func52, Try.ntmps52
      go_wp2_with fail
      refine wp_loop_rounds 1 ?_
      rw [rounds_succ]
      go_wp2_with (go_at_call 66; refine (hI _).mono ?_; rintro e w' ⟨rfl, rfl⟩)
      (try simp only [Exit.inBlock, Exit.then]); refine bodyPost_ret (results_none rfl _ _ _) rfl ?_
      exact ⟨rfl, rfl⟩
    have hB : ∀ W, Calls Try.prog 53 #[.int .u64 0] W fun e w' => e = .returned (.int .i64 (Lib.bitLen 0 : Nat)) ∧ w' = W := fun W => by
      have h := Any.bits_Len (SlLaysF0.n15.bits (P := Try.prog) (ρ := sortL_ren) { sortL with }) 0 W (by omega) (by omega)
      exact h
    go_enter Try.func35, Try.ntmps35
    go_wp2_with (first | (go_at_call 53; refine (hB _).mono ?_; rintro e w' ⟨rfl, rfl⟩) | (go_at_call 52; refine (hP _).mono ?_; rintro e w' ⟨rfl, rfl⟩))
    go_end0
    exact ⟨rfl, [], List.Perm.refl _, List.Pairwise.nil, RdsK.nil _ _, Below.refl _ _⟩
  · have hgl : g < w.heap.size := (Array.getElem?_eq_some_iff.1 hg).1
    have hH := row_holds hown
    have eg : ∀ args w, (callFunc 36 args).run Try.prog w = .ok (.enter 36 args) w := enters_of Try.func36 (by kernel_rfl) rfl
    have hcon := AnyQ.slices_SortFunc sortL 3 agg_key size_key kc (fun _ => rfl) (fun x v hv => by simp [kc] at hv; rcases hv with rfl | rfl | rfl <;> rfl) cmpK swoK 36 #[] g 0 cap l.toArray w eg (clo_lays g 0 _ w) hH hgl (by simpa using hlen)
    change Calls Try.prog 35 _ _ _ at hcon
    have hsz : l.toArray.size = l.length := by simp
    rw [hsz] at hcon
    refine hcon.mono ?_
    rintro e w' ⟨rfl, d', n, os, hp, hs, rfl⟩
    have hd : d'.size = l.length := hp.1.trans hsz
    have hbb := below_sortK (w := w) (m := n) (d := d') (os := os) hbg hbs
    refine ⟨rfl, d'.toList, ?_, ?_, ?_, hbb⟩
    · have h2 := hp.2.2
      rw [Array.extract_eq_self_of_le (by omega), Array.extract_eq_self_of_le (by simp)] at h2
      simpa using h2
    · rw [← hd] at hs
      exact rise_of hs
    · have := rds_sorted (m := n) (os := os) hH hgl (hd.trans hsz.symm) (cap := cap) (by omega) hcm
      rw [hd] at this
      simpa [hd] using this
end Go.Proofs.Ytgbmigfamefenaa
