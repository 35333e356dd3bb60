/- The contract of the library's sort at rows of spans, by their beginnings; byFrom. -/
import Derived.Test.YthijbpodkklcnaaSpl
import Derived.Shelf.SlSortCmp.WholeK
import Derived.Shelf.SlicesG.Cmp
import Derived.Shelf.Lay
import Derived.Ground.SlsfProg
import Derived.Ground.SlgcProg
namespace Go.Proofs.Ythijbpodkklcnaa
open Go.Shelf Go.RowKit Go.Lib Go.Sort
shelf_lay_g SlLaysF0.n6 Slsf 6 at Try 31 as sortL
shelf_lay_g SlLaysC2.n5 Slgc 5 at Try 33 as cmpL

set_option maxHeartbeats 1000000 in
theorem clo_any (x y : Sp) (W : World) : Calls Try.prog 32 #[.agg #[.int .i64 x.1, .int .i64 x.2], .agg #[.int .i64 y.1, .int .i64 y.2]] W fun e w' => e = .returned (.int .i64 (Lib.compareInt x.1 y.1)) ∧ ∃ q os', w' = grow (W.drewN q) os' := by
  have hcon := fun W' => AnyG.cmp_Compare_int cmpL x.1 y.1 W'
  change ∀ W', Calls Try.prog 33 _ _ _ at hcon
  generalize Lib.compareInt x.1 y.1 = r at hcon ⊢
  go_enter Try.func32, Try.ntmps32
  go_wp2_with (go_at_call 33; refine (hcon _).mono ?_; rintro e w' ⟨rfl, rfl⟩)
  go_ret
  exact ⟨rfl, 0, _, by rw [alloc_eq_grow, alloc_eq_grow, grow_grow]; rfl⟩
theorem clo_lays (blk off size : Nat) (w : World) : CmpLays Try.prog 32 #[] pc 2 (fun x y => Lib.compareInt x.1 y.1) blk off size w :=
  fun _ _ _ _ x y => clo_any x y _
theorem ltS (x y : Sp) : ltOf (fun x y : Sp => Lib.compareInt x.1 y.1) x y = decide (x.1 < y.1) := by
  unfold ltOf Lib.compareInt
  by_cases h1 : x.1 < y.1
  · simp [h1]
  · by_cases h2 : y.1 < x.1 <;> simp [h1, h2]
theorem swoS : SWO (ltOf fun x y : Sp => Lib.compareInt x.1 y.1) where
  irrefl x := by rw [ltS]; simp
  trans x y z h1 h2 := by rw [ltS] at *; simp at *; omega
  ntrans x y z h1 h2 := by rw [ltS] at *; simp at *; omega
theorem agg_span : ∀ w, (isAgg 23).run Try.prog w = .ok true w := Try.isAgg23
theorem size_span : ∀ w, (Go.sizeOf 23).run Try.prog w = .ok 2 w := Try.sizeOf23
/-- A slice's memory lies in these blocks. -/
def Lies (lo hi : Nat) (v : Value) : Prop := ∀ a n c, v = .slice (some a) n c → lo ≤ a.block ∧ a.block < hi
theorem OwP.lies {w : World} {base : Nat} {v : Value} {l : List Sp} (h : OwP w base v l) : Lies base w.heap.size v := by
  intro a n c hv
  rcases h.2 with ⟨rfl, _⟩ | ⟨g, cap, cur, rfl, hb, hg, _⟩
  · cases hv
  · simp only [Value.slice.injEq, Option.some.injEq] at hv
    obtain ⟨rfl, _, _⟩ := hv
    exact ⟨hb, (Array.getElem?_eq_some_iff.1 hg).1⟩
theorem Lies.wide {lo hi lo' hi' : Nat} {v : Value} (h : Lies lo hi v) (h1 : lo' ≤ lo) (h2 : hi ≤ hi') : Lies lo' hi' v := fun a n c e => by
  have := h a n c e; omega
theorem RdP.keep {w w' : World} {v : Value} {l : List Sp} {lo hi : Nat} (h : RdP w v l) (hl : Lies lo hi v) (hb : ∀ k, lo ≤ k → k < hi → w'.heap[k]? = w.heap[k]?) : RdP w' v l := by
  obtain ⟨ao, cap, rfl, h0, h1, h2, h3, h4⟩ := h
  refine ⟨ao, cap, rfl, h0, h1, h2, h3, fun ad ha j u hj => ?_⟩
  have hc := h4 ad ha j u hj
  subst ha
  have hk := hl ad _ _ rfl
  have hab : (ad.add j).block = ad.block := by cases ad; simp [Addr.add]; try (split <;> rfl)
  have : w'.cell? (ad.add j) = w.cell? (ad.add j) := World.cell?_of_block (w := w) (hb _ (by rw [hab]; exact hk.1) (by rw [hab]; exact hk.2))
  rw [this]
  exact hc
theorem below_sortK {w : World} {base blk m : Nat} {d : Array Sp} {os : Array Obj} (hb : base ≤ blk) (hsz : base ≤ w.heap.size) : Below base w (sortWorldK pc 2 w blk 0 m d os) := by
  refine ⟨rfl, rfl, rfl, ?_, fun i hi => ?_⟩
  · unfold sortWorldK; rw [size_grow, size_putRowK]; show w.heap.size ≤ w.heap.size + _; omega
  · have hne : blk ≠ i := by omega
    unfold sortWorldK
    rw [heap_grow_old _ _ (by rw [size_putRowK]; show i < w.heap.size; omega)]
    simp [putRowK, putRow, mapBlock, Sort.ahead, Array.getElem?_modify, hne]
theorem row_holds {w : World} {base g cap : Nat} {l : List Sp} (hown : OwP w base (.slice (some ⟨g, 0, none⟩) l.length cap) l) : HoldsK pc 2 w g 0 l.toArray := by
  intro j hj
  rw [size_flatK] at hj
  have hj' : j < l.length * 2 := by simpa using hj
  rw [get_flatK _ _ _ _ hj, Nat.zero_add]
  refine ⟨?_, World.ownsRow.frozenAt hown j⟩
  rw [World.ownsRow.cellAt hown j hj']
  have h1 : j / 2 < l.length := by omega
  have e := pv_get l (j / 2) (j % 2) h1 (by omega)
  rw [show j / 2 * 2 + j % 2 = j by omega] at e
  rw [e]
  have h2 : j / 2 < l.toArray.size := by simpa using h1
  rw [getElem!_pos l.toArray (j / 2) h2]
  have h4 : j % 2 < (pc l[j / 2]).length := by simp [pc]; omega
  simp only [List.getElem_toArray]
  rw [getElem!_pos (pc l[j / 2]) (j % 2) h4, List.getElem?_eq_getElem h4]
  rfl
theorem rds_sorted {w : World} {g cap m : Nat} {d0 d : Array Sp} {os : Array Obj} (hH : HoldsK pc 2 w g 0 d0) (hg : g < w.heap.size) (hs : d.size = d0.size) (hc : d.size ≤ cap) (hm : cap ≤ maxLen) :
    RdP (sortWorldK pc 2 w g 0 m d os) (.slice (some ⟨g, 0, none⟩) d.size cap) d.toList := by
  have S : SWK pc 2 w g 0 d (sortWorldK pc 2 w g 0 m d os) := ⟨m, os, rfl⟩
  refine ⟨some ⟨g, 0, none⟩, cap, by simp, by rw [pv_length], by simpa using hc, hm, (fun h => by cases h), ?_⟩
  rintro ad ⟨rfl⟩ j u hj
  have hl : j < d.size * 2 := by
    have := (List.getElem?_eq_some_iff.1 hj).1
    rw [pv_length] at this
    simpa using this
  have h1 : j / 2 < d.toList.length := by simp; omega
  have e := pv_get d.toList (j / 2) (j % 2) h1 (by omega)
  rw [show j / 2 * 2 + j % 2 = j by omega, hj] at e
  have hh := S.holds hg hH hs j (by rw [size_flatK]; exact hl)
  rw [get_flatK _ _ _ _ hl, Nat.zero_add] at hh
  rw [Addr.add_lit, Nat.zero_add, hh.1]
  have h2 : j / 2 < d.size := by omega
  rw [getElem!_pos d _ h2]
  have h4 : j % 2 < (pc d[j / 2]).length := by simp [pc]; omega
  have e2 : d.toList[j / 2] = d[j / 2] := by simp
  rw [e2, List.getElem?_eq_getElem h4] at e
  rw [getElem!_pos (pc d[j / 2]) (j % 2) h4]
  exact e.symm
theorem rise_of {d : Array Sp} (h : SortedIn (ltOf fun x y : Sp => Lib.compareInt x.1 y.1) 0 d.size d) : Rise d.toList := by
  refine List.pairwise_iff_getElem.2 fun i j hi hj hij => ?_
  have hj' : j < d.size := by simpa using hj
  have hi' : i < d.size := by simpa using hi
  have := h i j (Nat.zero_le _) hij hj'
  rw [getElem!_pos d i hi', getElem!_pos d j hj', ltS] at this
  have := of_decide_eq_false this
  simp; omega

set_option maxHeartbeats 800000 in
theorem sort_any (w : World) (base : Nat) (v : Value) (l : List Sp) (hown : OwP w base v l) (hbs : base ≤ w.heap.size) (hlen : l.length < 4611686018427387904) :
    Calls Try.prog 31 #[v, .func (.func 32) #[] #[]] w fun e w' => e = .returned (.tuple #[]) ∧ ∃ l', l'.Perm l ∧ Rise l' ∧ RdP w' v l' ∧ Lies base w'.heap.size v ∧ Below base w w' := by
  rcases hown.2 with ⟨rfl, hn⟩ | ⟨g, cap, cur, rfl, hbg, hg, hnc, hcm, hcs, htake⟩
  · have hl : l = [] := List.eq_nil_of_length_eq_zero hn
    subst hl
    have hI : ∀ W, Calls Try.prog 37 #[.slice none 0 0, .int .i64 0, .int .i64 0, .func (.func 32) #[] #[]] W fun e w' => e = .returned (.tuple #[]) ∧ w' = W := fun W => by
      go_enter Try.func37, Try.ntmps37
      go_wp2_with fail
      refine wp_loop_rounds 1 ?_
      rw [rounds_succ]
      go_wp2_with fail
      go_end0
      exact ⟨rfl, rfl⟩
    have hP : ∀ W, Calls Try.prog 34 #[.slice none 0 0, .int .i64 0, .int .i64 0, .int .i64 (Lib.bitLen 0 : Nat), .func (.func 32) #[] #[]] W fun e w' => e = .returned (.tuple #[]) ∧ w' = W := fun W => by
      go_enter Try.func34, Try.ntmps34
      go_wp2_with fail
      refine wp_loop_rounds 1 ?_
      rw [rounds_succ]
      go_wp2_with (go_at_call 37; refine (hI _).mono ?_; rintro e w' ⟨rfl, rfl⟩)
      (try simp only [Exit.inBlock, Exit.then]); refine bodyPost_ret (results_none rfl _ _ _) rfl ?_
      exact ⟨rfl, rfl⟩
    have hB : ∀ W, Calls Try.prog 35 #[.int .u64 0] W fun e w' => e = .returned (.int .i64 (Lib.bitLen 0 : Nat)) ∧ w' = W := fun W => by
      have h := Any.bits_Len (SlLaysF0.n15.bits (P := Try.prog) (ρ := sortL_ren) { sortL with }) 0 W (by omega) (by omega)
      exact h
    go_enter Try.func31, Try.ntmps31
    go_wp2_with (first | (go_at_call 35; refine (hB _).mono ?_; rintro e w' ⟨rfl, rfl⟩) | (go_at_call 34; refine (hP _).mono ?_; rintro e w' ⟨rfl, rfl⟩))
    go_end0
    exact ⟨rfl, [], List.Perm.refl _, List.Pairwise.nil, RdP.nil _, (fun _ _ _ h => by cases h), Below.refl _ _⟩
  · have hgl : g < w.heap.size := (Array.getElem?_eq_some_iff.1 hg).1
    have hH := row_holds hown
    have eg : ∀ args w, (callFunc 32 args).run Try.prog w = .ok (.enter 32 args) w := enters_of Try.func32 (by kernel_rfl) rfl
    have hcon := AnyQ.slices_SortFunc sortL 2 agg_span size_span pc (fun _ => rfl) (fun x v hv => by simp [pc] at hv; rcases hv with rfl | rfl <;> rfl) (fun x y => Lib.compareInt x.1 y.1) swoS 32 #[] g 0 cap l.toArray w eg (clo_lays g 0 _ w) hH hgl (by simpa using hlen)
    change Calls Try.prog 31 _ _ _ at hcon
    have hsz : l.toArray.size = l.length := by simp
    rw [hsz] at hcon
    refine hcon.mono ?_
    rintro e w' ⟨rfl, d', n, os, hp, hs, rfl⟩
    have hd : d'.size = l.length := hp.1.trans hsz
    have hbb := below_sortK (w := w) (m := n) (d := d') (os := os) hbg hbs
    refine ⟨rfl, d'.toList, ?_, ?_, ?_, hown.lies.wide (Nat.le_refl _) hbb.size, hbb⟩
    · have h2 := hp.2.2
      rw [Array.extract_eq_self_of_le (by omega), Array.extract_eq_self_of_le (by simp)] at h2
      simpa using h2
    · rw [← hd] at hs
      exact rise_of hs
    · have := rds_sorted (m := n) (os := os) hH hgl (hd.trans hsz.symm) (cap := cap) (by omega) hcm
      rw [hd] at this
      exact this

set_option maxHeartbeats 2000000 in
theorem byFrom_any (w : World) (v : Value) (l : List Sp) (h : RdP w v l) (hbig : (l.length + 1) * 16 ≤ 160842843834660) :
    Calls Try.prog 27 #[v] w fun e w' => ∃ v', e = .returned v' ∧ ∃ l', l'.Perm (l.filter fun s => !emp s) ∧ Rise l' ∧ RdP w' v' l' ∧ Lies w.heap.size w'.heap.size v' ∧ Below w.heap.size w w' := by
  obtain ⟨ao, n, cap, rfl⟩ := h.sl
  obtain ⟨hn, c1, c2, -⟩ := h.at
  unfold maxLen at c2
  have HN : Hid (n = l.length) := hn
  have HH : Hid (RdP w (.slice ao n cap) l) := h
  have hbn : (n + 1) * 16 ≤ 160842843834660 := by omega
  clear h hn hbig
  go_enter Try.func27, Try.ntmps27
  go_wp2_with fail
  go_loopg [3, 8] n (fun kx v3 vi wr => ∃ (i m : Nat) (out : List Sp), vi = .int .i64 i ∧ i ≤ n ∧ n - i ≤ kx ∧ m ≤ i ∧ Hid (OwP wr w.heap.size v3 out) ∧ Hid (m = out.length ∧ out = (l.take i).filter fun s => !emp s) ∧ Hid (Below w.heap.size w wr))
  case atStart => exact ⟨0, 0, [], rfl, by omega, Nat.le_refl _, Nat.le_refl _, OwP.nil _ _, ⟨rfl, by simp⟩, Below.refl _ _⟩
  case round =>
    obtain ⟨i, m, out, rfl, hin, hkx, hmi, HO, HX, HB⟩ := hrel
    obtain ⟨a3, n3, c3, hv⟩ := own_sl HO.out
    subst hv
    by_cases hlt : i < n
    · have hltz : (i : Int) < (n : Int) := by omega
      have hil : i < l.length := by have := HN.out; omega
      have hr := HH.out.below HB.out
      obtain ⟨-, -, -, hk⟩ := hr.at
      obtain ⟨b, off, rfl, hcl⟩ := hk (by omega)
      obtain ⟨q0, q1⟩ := hcl i hil
      have htk : l.take (i + 1) = l.take i ++ [l[i]] := List.take_succ_eq_append_getElem hil
      generalize l[i] = x at *
      obtain ⟨F, T⟩ := x
      simp only at q0 q1
      obtain ⟨W, hW⟩ : ∃ W, W = wr.alloc (.cells #[.int .i64 F, .int .i64 T] 23) := ⟨_, rfl⟩
      have bW : Below wr.heap.size wr W := by rw [hW]; exact (Below.refl _ _).alloc (Nat.le_refl _) _
      have kP := withPart_any W w.heap.size (.slice a3 n3 c3) out (F, T) (HO.out.below bW) (Nat.le_trans HB.out.size bW.size) (by have := HX.out.1; omega)
      have HT : Hid _ := htk
      have HW : Hid _ := hW
      have HBW : Hid (Below w.heap.size w W) := HB.out.trans (bW.mono HB.out.size)
      rw [hW] at kP
      clear hr hcl htk hW bW hk
      go_wp2_with fail
      refine kP.mono ?_
      rintro e w5 ⟨v5, rfl, o5, b5, -⟩
      rw [← HW.out] at b5
      have HO5 : Hid _ := o5
      have HB5 : Hid _ := b5
      clear o5 b5 kP
      go_wp2_with fail
      go_roundg (n - (i + 1))
      case measure => omega
      case rel =>
        obtain ⟨x1, x2⟩ := HX.out
        have hl := wp_length out (F, T)
        refine ⟨i + 1, (wp out (F, T)).length, wp out (F, T), by go_num, by omega, Nat.le_refl _, by omega, HO5.out, ⟨rfl, ?_⟩, HBW.out.trans HB5.out⟩
        rw [HT.out, List.filter_append, ← x2]
        unfold wp
        cases e : emp (F, T) <;> simp [e]
    · have hltz : ¬ (i : Int) < (n : Int) := by omega
      have kS := sort_any wr w.heap.size (.slice a3 n3 c3) out HO.out HB.out.size (by have := HX.out.1; omega)
      go_wp2_with fail
      refine kS.mono ?_
      rintro e w5 ⟨rfl, l', hp, hr, rd, ls, b5⟩
      have HF : Hid _ := And.intro hp (And.intro hr (And.intro rd (And.intro ls b5)))
      clear hp hr rd ls b5 kS
      go_wp2_with fail
      go_ret
      obtain ⟨hp, hr, rd, ls, b5⟩ := HF.out
      obtain ⟨x1, x2⟩ := HX.out
      rw [List.take_of_length_le (by have := HN.out; omega)] at x2
      rw [x2] at hp
      exact ⟨_, rfl, l', hp, hr, rd, ls, HB.out.trans b5⟩
end Go.Proofs.Ythijbpodkklcnaa
