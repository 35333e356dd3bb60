/- The walk of WireBack. -/
import Derived.Test.YtpdlioidiobbbaaOne
namespace Go.Proofs.Ytpdlioidiobbbaa
open Go.RowKit Go.Sort

theorem BxA.up {w w' : World} {g : Nat} {t : TypeId} {cs : Array Value} (h : BxA w g t cs) (b : Below w.heap.size w w') : BxA w' g t cs := by
  unfold BxA at h ⊢
  rw [b.block g (Array.getElem?_eq_some_iff.1 h).1]
  exact h
/-- A guarded load of a whole struct. -/
theorem wpList_load_rowG {P : Program} {ops : Array Oper} {rest : List Oper} {o : Oper} {a : Act} {w : World} {Q : Exit → Act → World → Prop} (ty : TypeId) (x : Operand) (ho : o.op = .load ty x)
    (g : Nat) (hx : a.eval x = .pointer (some ⟨g, 0, none⟩)) (t : TypeId) (cs : Array Value) (fr : Nat × Nat) (d : TypeDesc) (hg : w.heap[g]? = some (.cells cs t fr))
    (hu : P.underlying ty = some d) (hd : (match d with | .struct _ | .array _ _ => true | _ => false) = true) (hi : (P.info? ty).map (·.size) = some cs.size)
    (hw : Region.wanted o (yielded ops a.tmps) = true)
    (h : wpList P ops Q rest (a.put o.dst (.agg cs)) w) : wpList P ops Q (o :: rest) a w :=
  wpList_step fun K hK => by
    rw [if_pos hw]
    exact wp_load_row ty x ho g hx t cs fr d hg hu hd hi (hK _ _ h)
theorem rres_some {m : Mm} {b : Bs} (h : rres m = some b) : e_fil 20 m.q.t ≠ none ∧ r_msg m = b ∧ b.length ≤ 1048576 := by
  unfold rres at h
  by_cases h1 : e_fil 20 m.q.t = none
  · rw [if_pos h1] at h; cases h
  · rw [if_neg h1] at h
    by_cases h2 : (r_msg m).length ≤ 1048576
    · rw [if_pos h2] at h
      have e := Option.some.inj h
      exact ⟨h1, e, e ▸ h2⟩
    · rw [if_neg h2] at h; cases h
/-- The bytes of a message are read without an error. -/
theorem code_back {w : World} {m : Mm} {b : Bs} (hm : m.Ok w) (hd : e_fil 20 m.q.t ≠ none) (hb : r_msg m = b) : gcode b = 0 := by
  have h := back_msg b m hm hd 0 [] (by rw [List.drop_zero, List.append_nil, hb])
  rw [hb] at h
  unfold gcode
  rw [h]
  unfold en
  simp
set_option maxRecDepth 100000 in
set_option maxHeartbeats 3200000 in
theorem same_two (w : World) (m n : Mm) (b : Bs) (hm : m.Ok w) (hn : n.Ok w) (h1 : rres m = some b) (h2 : rres n = some b) :
    Calls Try.prog 13 #[.agg (mcells m), .agg (mcells n)] w fun e w' => e = .returned (.bool true) ∧ Below w.heap.size w w' := by
  obtain ⟨W, hW⟩ : ∃ W, W = (w.alloc (.cells (mcells m) 46)).alloc (.cells (mcells n) 46) := ⟨_, rfl⟩
  have bW : Below w.heap.size w W := by rw [hW]; exact ((Below.refl _ _).alloc (Nat.le_refl _) _).alloc (by simp) _
  have xm : BxA W w.heap.size 46 (mcells m) := by rw [hW]; unfold BxA; rw [Below.heap_alloc _ _ _ (by simp)]; exact BxA.new _ _ _
  have xn : BxA W (w.heap.size + 1) 46 (mcells n) := by
    rw [hW]
    have := BxA.new (w.alloc (.cells (mcells m) 46)) 46 (mcells n)
    simpa [BxA] using this
  have hl1 : (r_msg m).length ≤ 1073741824 := by have := rres_some h1; rw [this.2.1]; exact Nat.le_trans this.2.2 (by decide)
  have hl2 : (r_msg n).length ≤ 1073741824 := by have := rres_some h2; rw [this.2.1]; exact Nat.le_trans this.2.2 (by decide)
  have k1 : Calls Try.prog 10 #[.agg (mcells m)] W (Puts W (rres m)) := rput W m (hm.up bW) hl1
  have k2 : ∀ w', Below w.heap.size w w' → Calls Try.prog 10 #[.agg (mcells n)] w' (Puts w' (rres n)) := fun w' h => rput w' n (hn.up h) hl2
  rw [h1] at k1
  have K2 : Aside (∀ w', Below w.heap.size w w' → Calls Try.prog 10 #[.agg (mcells n)] w' (Puts w' (some b))) := fun w' h => by have := k2 w' h; rw [h2] at this; exact this
  have HW : Hid (W = _) := hW
  have HX : Hid _ := And.intro xm xn
  have HB : Hid (Below w.heap.size w W) := bW
  clear hW xm xn bW k2 hm hn h1 h2 hl1 hl2
  go_enter Try.func13, Try.ntmps13
  go_upto_region 1 with fail
  rw [← HW.out]
  go_wp2_with (first | (refine wpList_load_row rfl 46 _ rfl w.heap.size rfl 46 _ (0, 0) _ HX.out.1 Try.underlying46 rfl (mcells_info m) ?_))
  refine k1.mono ?_
  rintro e w2 ⟨b2, hr2⟩
  rcases hr2 with ⟨hn, -⟩ | ⟨c, v, hn, rfl, ho⟩
  · cases hn
  obtain rfl : b = c := Option.some.inj hn
  have HB2 : Hid (Below w.heap.size w w2) := HB.out.trans (b2.mono HB.out.size)
  have HX2 : Hid (BxA w2 (w.heap.size + 1) 46 (mcells n)) := HX.out.2.up b2
  have HO : Hid (Owns w2 W.heap.size v b) := ho
  obtain ⟨va, vc, rfl⟩ := ho.shape b.length rfl
  have kk := K2.out w2 HB2.out
  clear k1 b2 hn ho
  go_wp2_with (first | (refine wpList_load_row rfl 46 _ rfl (w.heap.size + 1) rfl 46 _ (0, 0) _ HX2.out Try.underlying46 rfl (mcells_info n) ?_))
  refine kk.mono ?_
  rintro e w3 ⟨b3, hr3⟩
  rcases hr3 with ⟨hn, -⟩ | ⟨c, v3, hn, rfl, ho3⟩
  · cases hn
  obtain rfl : b = c := Option.some.inj hn
  have HB3 : Hid (Below w.heap.size w w3) := HB2.out.trans (b3.mono HB2.out.size)
  have hc1 := conv_string w3 _ _ (HO.out.reads.below b3)
  have hc2 := conv_string w3 _ _ ho3.reads
  obtain ⟨v3a, v3c, rfl⟩ := ho3.shape b.length rfl
  clear b3 ho3 hn kk
  go_wp2_with fail
  go_ret
  exact ⟨by simp, HB3.out⟩
set_option maxRecDepth 100000 in
set_option maxHeartbeats 6400000 in
theorem back_walk (w : World) (m : Mm) (hm : m.Ok w) :
    Calls Try.prog 5 #[.agg (mcells m)] w fun e w' => e = .returned (.bool true) ∧ Below w.heap.size w w' := by
  obtain ⟨W, hW⟩ : ∃ W, W = w.alloc (.cells (mcells m) 46) := ⟨_, rfl⟩
  have bW : Below w.heap.size w W := by rw [hW]; exact (Below.refl _ _).alloc (Nat.le_refl _) _
  have xm : BxA W w.heap.size 46 (mcells m) := by rw [hW]; exact BxA.new _ _ _
  have HW : Hid (W = _) := hW
  have HX : Hid (BxA W w.heap.size 46 (mcells m)) := xm
  have HB : Hid (Below w.heap.size w W) := bW
  have HM : Aside (∀ w', Below w.heap.size w w' → m.Ok w') := fun w' h => hm.up h
  clear hW xm bW hm
  go_enter Try.func5, Try.ntmps5
  go_upto_region 1 with fail
  rw [← HW.out]
  go_wp2_with fail
  refine (awake_any W).mono ?_
  rintro e w2 ⟨rfl, b2⟩
  have HB2 : Hid (Below w.heap.size w w2) := HB.out.trans (b2.mono HB.out.size)
  have HX2 : Hid (BxA w2 w.heap.size 46 (mcells m)) := HX.out.up b2
  have hrg : w2.rangeAt w.heap.size 14 [.int .i64 m.q.t.k, .int .i64 m.q.t.d, m.q.t.tv, .int .i64 m.q.t.lo, .int .i64 m.q.t.hi, m.q.t.kv] := fun j v hv => by
    rcases j with _ | _ | _ | _ | _ | _ | j
    · cases hv; exact BxA.cell HX2.out 14 _ rfl
    · cases hv; exact BxA.cell HX2.out 15 _ rfl
    · cases hv; exact BxA.cell HX2.out 16 _ rfl
    · cases hv; exact BxA.cell HX2.out 17 _ rfl
    · cases hv; exact BxA.cell HX2.out 18 _ rfl
    · cases hv; exact BxA.cell HX2.out 19 _ rfl
    · simp at hv
  have HRG : Hid _ := hrg
  have kF := parts_any _ m.q.t (Nat.lt_succ_self _) w2 20000 (HM.out w2 HB2.out).q.t (by omega) (by omega)
  clear b2 hrg
  go_wp2_with (first | (refine wpList_load_mid rfl 32 (.tmp 12) rfl w.heap.size 14 rfl [.int .i64 m.q.t.k, .int .i64 m.q.t.d, m.q.t.tv, .int .i64 m.q.t.lo, .int .i64 m.q.t.hi, m.q.t.kv] _ HRG.out Try.underlying32 rfl (by kernel_rfl) ?_))
  refine kF.mono ?_
  rintro e w3 ⟨z, rfl, hz0, hz1, g3⟩
  have HB3 : Hid (Below w.heap.size w w3) := HB2.out.trans (g3.below.mono HB2.out.size)
  have HX3 : Hid (BxA w3 w.heap.size 46 (mcells m)) := HX2.out.up g3.below
  clear g3 kF
  by_cases hzn : z < 0
  · go_wp2_with fail
    go_ret
    exact ⟨rfl, HB3.out⟩
  have kP : Calls Try.prog 9 #[.agg (mcells m)] w3 (Puts w3 (put (some []) (e_msg m))) := wput w3 m (HM.out w3 HB3.out)
  rw [put_res] at kP
  go_wp2_with (first | (refine wpList_load_row rfl 46 _ rfl w.heap.size rfl 46 _ (0, 0) _ HX3.out Try.underlying46 rfl (mcells_info m) ?_))
  refine kP.mono ?_
  rintro e w4 ⟨b4, hr4⟩
  have HB4 : Hid (Below w.heap.size w w4) := HB3.out.trans (b4.mono HB3.out.size)
  have HX4 : Hid (BxA w4 w.heap.size 46 (mcells m)) := HX3.out.up b4
  rcases hr4 with ⟨hn, rfl⟩ | ⟨b, v, hn, rfl, ho⟩
  · clear hn b4 kP
    go_wp2_with fail
    go_ret
    exact ⟨rfl, HB4.out⟩
  obtain ⟨hd, hrm, hbl⟩ := rres_some hn
  have hg0 := code_back (HM.out w4 HB4.out) hd hrm
  have kG := gget w4 v b hbl ho.reads
  have HN : Hid (rres m = some b) := hn
  have HBL : Hid (b.length ≤ 1048576) := hbl
  have HG0 : Hid (gcode b = 0) := hg0
  obtain ⟨va, vc, rfl⟩ := ho.shape b.length rfl
  clear kP b4 hn ho hd hrm hbl hg0
  go_wp2_with fail
  refine kG.mono ?_
  rintro e w5 ⟨b5, n, rfl, hok, hl, -⟩
  have HB5 : Hid (Below w.heap.size w w5) := HB4.out.trans (b5.mono HB4.out.size)
  have hn2 : rres n = some b := by
    have hr := hl HG0.out
    unfold rres
    rw [if_neg (msg_fil n hok hr HG0.out), if_pos (by rw [hr]; exact HBL.out), hr]
  rw [HG0.out]
  obtain ⟨U, hU⟩ : ∃ U, U = w5.alloc (.cells (mcells n) 46) := ⟨_, rfl⟩
  have bU : Below w5.heap.size w5 U := by rw [hU]; exact (Below.refl _ _).alloc (Nat.le_refl _) _
  have xU : BxA U w5.heap.size 46 (mcells n) := by rw [hU]; exact BxA.new _ _ _
  have HU : Hid (U = _) := hU
  have HXU : Hid (BxA U w5.heap.size 46 (mcells n)) := xU
  have HX5 : Hid (BxA U w.heap.size 46 (mcells m)) := (HX4.out.up b5).up bU
  have HBU : Hid (Below w.heap.size w U) := HB5.out.trans (bU.mono HB5.out.size)
  have HAL : Hid _ := mcells_all n hok
  have kS := same_two U m n b (HM.out U HBU.out) (hok.up bU) HN.out hn2
  clear kG b5 hok hl hn2 hU bU xU
  go_upto_region 10 with (first | (refine wpList_store_new rfl 46 (.tmp 6) (.tmp 33) rfl w5 zmsg (mcells n) rfl rfl rfl (mcells_info n) rfl HAL.out ?_))
  rw [← HU.out]
  go_wp2_with (first | (refine wpList_load_rowG 46 (.tmp 1) rfl w.heap.size rfl 46 _ (0, 0) _ HX5.out Try.underlying46 rfl (mcells_info m) (by first | rfl | simp [go_sem]) ?_) | (refine wpList_load_rowG 46 (.tmp 6) rfl w5.heap.size rfl 46 _ (0, 0) _ HXU.out Try.underlying46 rfl (mcells_info n) (by first | rfl | simp [go_sem]) ?_))
  refine kS.mono ?_
  rintro e w6 ⟨rfl, b6⟩
  have HB6 : Hid (Below w.heap.size w w6) := HBU.out.trans (b6.mono HBU.out.size)
  clear kS b6
  go_wp2_with fail
  go_ret
  exact ⟨rfl, HB6.out⟩
end Go.Proofs.Ytpdlioidiobbbaa
