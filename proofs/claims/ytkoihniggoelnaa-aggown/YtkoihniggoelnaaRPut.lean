/- The contract of the reference's put: a text put into rising ones. -/
import Derived.Test.YtkoihniggoelnaaEns
namespace Go.Proofs.Ytkoihniggoelnaa
open Go.RowKit Go.Sort

theorem one_s (w : World) (x : Str) (B : Nat) (hB : B = w.heap.size) : RdsK 1 (w.alloc (.cells #[.string ⟨x.toArray⟩] 9)) (.slice (some ⟨B, 0, none⟩) 1 1) 1 (sv [x]) := by
  subst hB
  refine ⟨some ⟨w.heap.size, 0, none⟩, 1, rfl, by simp [sv], Nat.le_refl _, by decide, (fun h => by cases h), ?_⟩
  rintro ad ⟨rfl⟩ j u hj
  have hj0 : j = 0 := by have := (List.getElem?_eq_some_iff.1 hj).1; simp [sv] at this; omega
  subst hj0
  have hu : u = .string ⟨x.toArray⟩ := by simpa [sv] using hj.symm
  subst hu
  rw [Addr.add_lit]; exact al_new _ _ _ rfl rfl
theorem pstp_len (s : Str) (a : List Str × Bool) (t : Str) : (pstp s a t).1.length ≤ a.1.length + 2 := by
  unfold pstp
  split
  · simp
  · split <;> simp
theorem pstpf_len (s : Str) : ∀ (l : List Str) (a : List Str × Bool), (l.foldl (pstp s) a).1.length ≤ a.1.length + 2 * l.length
  | [], a => by simp
  | t :: l, a => by
    rw [List.foldl_cons]
    have h1 := pstpf_len s l (pstp s a t)
    have h2 := pstp_len s a t
    simp only [List.length_cons]; omega
theorem ba_eq (x y : Str) : ((⟨x.toArray⟩ : ByteArray) = ⟨y.toArray⟩) ↔ x = y := by
  constructor
  · intro h
    have := congrArg (fun b : ByteArray => b.data.toList) h
    simpa using this
  · rintro rfl; rfl
set_option maxHeartbeats 8000000 in
theorem refput_any (w : World) (v : Value) (l : List Str) (s : Str) (h : Rds w v (sv l)) (hbig : l.length ≤ 400) :
    Calls Try.prog 28 #[v, .string ⟨s.toArray⟩] w fun e w' => ∃ v', e = .returned v' ∧ w'.ownsRow w.heap.size 9 1 v' (putT l s).length (sv (putT l s)) ∧ Below w.heap.size w w' := by
  obtain ⟨i0, hi, hz0, hz1, hz2⟩ := info_parts Try.info_str
  have HOne : Aside (∀ l : List Str, ∀ v ∈ sv l, v.oneCell' = true) := sv_one
  obtain ⟨ao, n, cap, rfl⟩ := h.sl
  obtain ⟨hn, c1, c2, c3⟩ := h.cells
  rw [sv_length] at hn c1 c3
  have hn4 : n ≤ 400 := by omega
  have hnc : n ≤ cap := by omega
  unfold maxLen at c2
  have HN : Hid (n = l.length) := hn
  have HC : Hid _ := c3
  have hzm : ∀ m, m ≤ 2000 → m ≤ maxLen := fun m hm => by unfold maxLen; omega
  have hzb : ∀ m, m ≤ 2000 → (m + m / 4 + 192) * 16 ≤ 281474976710656 := fun m hm => by omega
  clear h hn c1 c3 hbig
  go_enter Try.func28, Try.ntmps28
  go_wp2_with fail
  go_loopg [5, 6, 7] n (fun kx v5 v6 v7 wr => ∃ (i : Nat) (o : List Str) (b : Bool) (m : Nat), v7 = .int .i64 i ∧ v6 = .bool b ∧ i ≤ n ∧ n - i ≤ kx ∧ m ≤ 2 * i ∧ wr.ownsRow w.heap.size 9 1 v5 m (sv o) ∧ Hid ((l.take i).foldl (pstp s) ([], false) = (o, b) ∧ m = o.length) ∧ Below w.heap.size w wr)
  case atStart => exact ⟨0, [], false, 0, rfl, rfl, by omega, Nat.le_refl _, by omega, World.ownsRow_nil _ _ _ _, ⟨rfl, rfl⟩, Below.refl _ _⟩
  case round =>
    obtain ⟨i, o, b, m, rfl, rfl, hin, hkx, hm2, own, HX, bel⟩ := hrel
    by_cases hlt : i < n
    · have hltz : (i : Int) < (n : Int) := by omega
      have hil : i < l.length := by have := HN.out; omega
      obtain ⟨p1, o1, rfl, hc⟩ := HC.out (by omega)
      have hcell := cell_up bel (hc i _ (sv_get l i hil))
      have hgd := getD_at hil
      rw [hgd] at hcell
      have hfold : Hid ((l.take (i + 1)).foldl (pstp s) ([], false) = pstp s (o, b) l[i]) := by
        show _ = _
        rw [foldl_take (pstp s) _ l i hil, HX.out.1]
      generalize l[i] = t at hcell hfold hgd
      have HB : Hid (Below w.heap.size w wr) := bel
      have hle : w.heap.size ≤ wr.heap.size := bel.size
      obtain ⟨a5, n5, c5, rfl⟩ := own_sl own
      have HMO : Hid (m = o.length) := HX.out.2
      have R1 := one_s wr t _ rfl
      have O1 : (wr.alloc (.cells #[.string ⟨t.toArray⟩] 9)).ownsRow w.heap.size 9 1 (.slice a5 n5 c5) m (sv o) := own.alloc _
      have B1 : Below w.heap.size w (wr.alloc (.cells #[.string ⟨t.toArray⟩] 9)) := bel.alloc hle _
      have hza := hzm (m + 1) (by omega)
      have hzb1 := hzb (m + 1) (by omega)
      by_cases he : t = s
      · subst he
        have hlb : Op.bytesLess t t = false := by rw [bytesLess_eq]; exact decide_eq_false (lt_irr t)
        have hp : Hid (pstp t (o, b) t = (o ++ [t], true)) := by show _ = _; unfold pstp; rw [if_pos rfl]
        have HR1 : Hid _ := R1
        have HO1 : Hid _ := O1
        have HB1 : Hid _ := B1
        clear R1 O1 B1 own bel hc hgd
        go_wp2_with (first
          | (at_builtin; refine wpList_appK rfl _ _ 28 rfl w.heap.size 9 i0 (.string ⟨#[]⟩) 1 16 Try.underlying28 hi hz0 hz1 hz2 rfl (by decide) _ _ _ rfl HO1.out _ _ _ rfl HR1.out (HOne.out [t]) hza hzb1 HB1.out.size ?_; intro v7 w7 hown7 hgrow7 hnil7))
        go_roundg (n - (i + 1))
        case measure => omega
        case rel => exact ⟨i + 1, o ++ [t], true, m + 1, by go_num, rfl, by omega, Nat.le_refl _, by omega, by rw [sv_append]; exact hown7, ⟨hfold.out.trans hp.out, by rw [List.length_append, ← HMO.out]; rfl⟩, HB1.out.grown hgrow7 HB1.out.size fun k hk => (World.ownsRow.lt HO1.out k hk).1⟩
      · have hne : (t == s) = false := beq_eq_false_iff_ne.2 he
        have HE : Hid (t ≠ s) := he
        have tx := str_toList t
        have ty := str_toList s
        by_cases hs : s < t ∧ b = false
        · obtain ⟨hst, rfl⟩ := hs
          have hlb : Op.bytesLess t s = false := by rw [bytesLess_eq]; exact decide_eq_false fun x => lt_irr _ (lt_tr x hst)
          have hp : Hid (pstp s (o, false) t = (o ++ [s] ++ [t], true)) := by show _ = _; unfold pstp; rw [if_neg he, if_pos ⟨hst, rfl⟩]
          clear he hst
          have HRs : Hid _ := one_s wr s _ rfl
          have HOs : Hid ((wr.alloc (.cells #[.string ⟨s.toArray⟩] 9)).ownsRow w.heap.size 9 1 (.slice a5 n5 c5) m (sv o)) := own.alloc _
          have HBs : Hid (Below w.heap.size w (wr.alloc (.cells #[.string ⟨s.toArray⟩] 9))) := bel.alloc hle _
          have hza2 := hzm (m + 1 + 1) (by omega)
          have hzb2 := hzb (m + 1 + 1) (by omega)
          have HCC : Hid _ := hc i _ (sv_get l i hil)
          clear R1 O1 B1 own bel hc
          go_upto_region 11 with (first
            | (at_builtin; refine wpList_appK rfl _ _ 28 rfl w.heap.size 9 i0 (.string ⟨#[]⟩) 1 16 Try.underlying28 hi hz0 hz1 hz2 rfl (by decide) _ _ _ rfl HOs.out _ _ _ rfl HRs.out (HOne.out [s]) hza hzb1 HBs.out.size ?_; intro v7 w7 hown7 hgrow7 hnil7))
          have B7 := HBs.out.grown hgrow7 HBs.out.size fun k hk => (World.ownsRow.lt HOs.out k hk).1
          have cell7 := cell_up (Below.mono B7 (Nat.le_refl _)) HCC.out
          rw [hgd] at cell7
          obtain ⟨a9, n9, c9, rfl⟩ := own_sl hown7
          have HR1 : Hid _ := one_s w7 t _ rfl
          have HO1 : Hid ((w7.alloc (.cells #[.string ⟨t.toArray⟩] 9)).ownsRow w.heap.size 9 1 (.slice a9 n9 c9) (m + 1) (sv (o ++ [s]))) := by rw [sv_append]; exact hown7.alloc _
          have HB1 : Hid (Below w.heap.size w (w7.alloc (.cells #[.string ⟨t.toArray⟩] 9))) := B7.alloc B7.size _
          obtain ⟨m1, hm1⟩ : ∃ m1, m1 = m + 1 := ⟨_, rfl⟩
          rw [← hm1] at HO1 hza2 hzb2
          have HM1 : Hid (m1 = m + 1) := hm1
          clear hown7 hgrow7 hnil7 B7 hcell HCC hgd hm1 hza hzb1
          go_wp2_with (first
            | (at_builtin; refine wpList_appK rfl _ _ 28 rfl w.heap.size 9 i0 (.string ⟨#[]⟩) 1 16 Try.underlying28 hi hz0 hz1 hz2 rfl (by decide) _ _ _ rfl HO1.out _ _ _ rfl HR1.out (HOne.out [t]) hza2 hzb2 HB1.out.size ?_; intro v8 w8 hown8 hgrow8 hnil8))
          go_roundg (n - (i + 1))
          case measure => omega
          case rel => exact ⟨i + 1, o ++ [s] ++ [t], true, m1 + 1, by go_num, rfl, by omega, Nat.le_refl _, by have := HM1.out; omega, by rw [sv_append (o ++ [s])]; exact hown8, ⟨hfold.out.trans hp.out, by rw [List.length_append, List.length_append, ← HMO.out, HM1.out]; rfl⟩, HB1.out.grown hgrow8 HB1.out.size fun k hk => (World.ownsRow.lt HO1.out k hk).1⟩
        · have hp : Hid (pstp s (o, b) t = (o ++ [t], b)) := by show _ = _; unfold pstp; rw [if_neg he, if_neg hs]
          clear he
          have HR1 : Hid _ := R1
          have HO1 : Hid _ := O1
          have HB1 : Hid _ := B1
          clear R1 O1 B1 own bel hc hgd
          by_cases hst : s < t
          · have hbt : b = true := by cases b with
              | true => rfl
              | false => exact absurd ⟨hst, rfl⟩ hs
            subst hbt
            have hlb : Op.bytesLess t s = false := by rw [bytesLess_eq]; exact decide_eq_false fun x => lt_irr _ (lt_tr x hst)
            clear hs hst
            go_wp2_with (first
              | (at_builtin; refine wpList_appK rfl _ _ 28 rfl w.heap.size 9 i0 (.string ⟨#[]⟩) 1 16 Try.underlying28 hi hz0 hz1 hz2 rfl (by decide) _ _ _ rfl HO1.out _ _ _ rfl HR1.out (HOne.out [t]) hza hzb1 HB1.out.size ?_; intro v7 w7 hown7 hgrow7 hnil7))
            go_roundg (n - (i + 1))
            case measure => omega
            case rel => exact ⟨i + 1, o ++ [t], true, m + 1, by go_num, rfl, by omega, Nat.le_refl _, by omega, by rw [sv_append]; exact hown7, ⟨hfold.out.trans hp.out, by rw [List.length_append, ← HMO.out]; rfl⟩, HB1.out.grown hgrow7 HB1.out.size fun k hk => (World.ownsRow.lt HO1.out k hk).1⟩
          · have hlb : Op.bytesLess t s = true := by rw [bytesLess_eq]; exact decide_eq_true (lt_of_le_ne hst HE.out)
            clear hs hst
            go_wp2_with (first
              | (at_builtin; refine wpList_appK rfl _ _ 28 rfl w.heap.size 9 i0 (.string ⟨#[]⟩) 1 16 Try.underlying28 hi hz0 hz1 hz2 rfl (by decide) _ _ _ rfl HO1.out _ _ _ rfl HR1.out (HOne.out [t]) hza hzb1 HB1.out.size ?_; intro v7 w7 hown7 hgrow7 hnil7))
            go_roundg (n - (i + 1))
            case measure => omega
            case rel => exact ⟨i + 1, o ++ [t], b, m + 1, by go_num, rfl, by omega, Nat.le_refl _, by omega, by rw [sv_append]; exact hown7, ⟨hfold.out.trans hp.out, by rw [List.length_append, ← HMO.out]; rfl⟩, HB1.out.grown hgrow7 HB1.out.size fun k hk => (World.ownsRow.lt HO1.out k hk).1⟩
    · have hltz : ¬ (i : Int) < (n : Int) := by omega
      obtain ⟨hf, hmo⟩ := HX.out
      rw [List.take_of_length_le (by have := HN.out; omega)] at hf
      obtain ⟨a5, n5, c5, rfl⟩ := own_sl own
      cases b with
      | true =>
        have hp : Hid (putT l s = o) := by show _ = _; unfold putT; rw [hf]; rfl
        have HO : Hid _ := And.intro own (And.intro bel hmo)
        clear own bel hf hmo HX
        go_wp2_with fail
        go_ret
        obtain ⟨own, bel, hmo⟩ := HO.out
        exact ⟨_, rfl, by rw [hp.out, ← hmo]; exact own, bel⟩
      | false =>
        have hp : Hid (putT l s = o ++ [s]) := by show _ = _; unfold putT; rw [hf]; rfl
        have HRs : Hid _ := one_s wr s _ rfl
        have HOs : Hid ((wr.alloc (.cells #[.string ⟨s.toArray⟩] 9)).ownsRow w.heap.size 9 1 (.slice a5 n5 c5) m (sv o)) := own.alloc _
        have HBs : Hid (Below w.heap.size w (wr.alloc (.cells #[.string ⟨s.toArray⟩] 9))) := bel.alloc bel.size _
        have hza := hzm (m + 1) (by omega)
        have hzb1 := hzb (m + 1) (by omega)
        have HMO : Hid _ := hmo
        clear own bel hf hmo HX
        go_wp2_with (first
          | (at_builtin; refine wpList_appK rfl _ _ 28 rfl w.heap.size 9 i0 (.string ⟨#[]⟩) 1 16 Try.underlying28 hi hz0 hz1 hz2 rfl (by decide) _ _ _ rfl HOs.out _ _ _ rfl HRs.out (HOne.out [s]) hza hzb1 HBs.out.size ?_; intro v7 w7 hown7 hgrow7 hnil7))
        have HB7 : Hid _ := HBs.out.grown hgrow7 HBs.out.size fun k hk => (World.ownsRow.lt HOs.out k hk).1
        obtain ⟨a9, n9, c9, rfl⟩ := own_sl hown7
        have HO7 : Hid _ := hown7
        clear hown7 hgrow7 hnil7
        go_wp2_with fail
        go_ret
        exact ⟨_, rfl, by rw [hp.out, List.length_append, sv_append, ← HMO.out]; exact HO7.out, HB7.out⟩
end Go.Proofs.Ytkoihniggoelnaa
