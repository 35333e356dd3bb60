/- The program's readers of spans, segments, aggregators, partials, groups, facts, pieces. -/
import Derived.Test.YtpdlioidiobbbaaRg1
namespace Go.Proofs.Ytpdlioidiobbbaa
open Go.RowKit

theorem fwd_t (l : Bs) : Fwd l (skT l) := by
  have hc := fwd_c l
  refine ⟨fun s hs => ?_, fun s hs => ?_⟩
  · obtain ⟨h1, h2, h3⟩ := cS_facts l s.1 s.2 1 hs
    have hle := hc.le s hs
    show s.1 ≤ (tS l s.1 s.2).2.1 ∧ (tS l s.1 s.2).2.1 ≤ l.length
    unfold tS
    by_cases h : (cS l s.1 s.2 1).2.2 ≠ 0
    · rw [if_pos h]; exact hle
    · rw [if_neg h]
      exact ⟨Nat.le_trans hle.1 (Nat.le_add_right _ _), h3 (Classical.not_not.1 h)⟩
  · have e := hc.stay s hs
    show (tS l s.1 s.2).2 = s
    have e2 : (cS l s.1 s.2 1).2 = s := e
    unfold tS
    rw [if_pos (by rw [e2]; exact hs)]
    show ((cS l s.1 s.2 1).2.1, (cS l s.1 s.2 1).2.2) = s
    rw [e2]
theorem gtext (B R : Nat) (l : Bs) (w : World) (p e : Nat) (hlb : l.length ≤ 1048576) (h : PS B w R l p e) :
    Calls Try.prog 96 #[.pointer (some ⟨R, 0, none⟩)] w fun er w' => ∃ t : Fi.Str, er = .returned (.string ⟨t.toArray⟩) ∧ t.length ≤ 1048576 ∧ Got B R l w w' (p, e) (skT l) (et t) := by
  have hple := h.le
  refine (text_p B w R l p e h (Nat.le_trans hlb (by decide))).mono ?_
  rintro er w' ⟨rfl, h1, g1⟩
  obtain ⟨k1, k2, k3⟩ := cS_facts l p e 1 hple
  refine ⟨_, rfl, ?_, h1, g1, fun h0 h2 => ?_⟩
  · unfold tS
    split
    · exact Nat.zero_le _
    · refine Nat.le_trans (List.length_take_le _ _) (Nat.le_trans (c_le l p e hple) hlb)
  · have hc : ¬ (cS l p e 1).2.2 ≠ 0 := fun hn => by
      have h3 : (tS l p e).2.2 = 0 := h2
      unfold tS at h3
      rw [if_pos hn] at h3
      exact hn h3
    have hc0 : (cS l p e 1).2.2 = 0 := Classical.not_not.1 hc
    have hb := c_bytes l (p, e) h0 hc0
    have e1 : tS l p e = ((l.drop (cS l p e 1).2.1).take (cS l p e 1).1, (cS l p e 1).2.1 + (cS l p e 1).1, 0) := by unfold tS; rw [if_neg hc]
    have e2 : (skT l (p, e)).1 = (cS l p e 1).2.1 + (cS l p e 1).1 := by show (tS l p e).2.1 = _; rw [e1]
    have hlen : ((l.drop (cS l p e 1).2.1).take (cS l p e 1).1).length = (cS l p e 1).1 := by
      rw [List.length_take, List.length_drop]
      have := k3 hc0
      omega
    show et (tS l p e).1 = rd l p (skT l (p, e)).1
    rw [e2, e1]
    unfold et
    simp only
    rw [hlen, hb.1]
    have hle := (fwd_c l).le (p, e) hple
    have hr := rd_app l (p := p) (q := (cS l p e 1).2.1) (r := (cS l p e 1).2.1 + (cS l p e 1).1) hle.1 (Nat.le_add_right _ _)
    rw [hr]
    show rd l p (cS l p e 1).2.1 ++ _ = _
    congr 1
    unfold rd
    rw [Nat.add_sub_cancel_left]
set_option maxRecDepth 100000 in
set_option maxHeartbeats 3200000 in
theorem gspan (B R : Nat) (l : Bs) (w : World) (p e : Nat) (_hlb : l.length ≤ 1048576) (h : PS B w R l p e) :
    Calls Try.prog 98 #[.pointer (some ⟨R, 0, none⟩)] w fun er w' => ∃ F T : Int, er = .returned (.agg #[.int .i64 F, .int .i64 T]) ∧ In64 F ∧ In64 T ∧ Got B R l w w' (p, e) (skSpan l) (r_span F T) := by
  have hRw := h.lt
  have hple := h.le
  have h0 : PS B (w.alloc (.cells #[.int .i64 0, .int .i64 0] 29)) R l p e := h.keep ((Below.refl (R + 1) w).alloc hRw _)
  have x0 : BxA (w.alloc (.cells #[.int .i64 0, .int .i64 0] 29)) w.heap.size 29 #[.int .i64 0, .int .i64 0] := BxA.new _ _ _
  have G0 : w.grownBy (w.alloc (.cells #[.int .i64 0, .int .i64 0] 29)) (some R) := grown_alloc _ _ _
  have H0 : Hid _ := h0
  have X0 : Hid _ := x0
  have GG0 : Hid _ := G0
  clear h0 x0 G0 h
  go_enter Try.func98, Try.ntmps98
  go_wp2_with fail
  refine (gint B R l _ _ _ H0.out).mono ?_
  rintro er w1 ⟨F, rfl, iF, G⟩
  have G1 : Hid (Got B R l _ w1 _ _ _) := G
  have X1 : Hid (BxA w1 w.heap.size 29 #[.int .i64 0, .int .i64 0]) := by
    apply hide
    have e := X0.out
    unfold BxA at e ⊢
    rw [G.g.block _ (Array.getElem?_eq_some_iff.1 e).1 (fun h => by simp at h; omega)]
    exact e
  have GG1 : Hid (w.grownBy w1 (some R)) := grown_trans' GG0.out G.g
  clear G
  go_wp2_with fail
  refine (gint B R l _ _ _ G1.out.ps).mono ?_
  rintro er w2 ⟨T, rfl, iT, G⟩
  have G2 : Hid (Got B R l _ w2 _ _ _) := G
  have X2 : Hid (BxA w2 w.heap.size 29 #[.int .i64 0, .int .i64 0]) := by
    apply hide
    have e := X1.out
    unfold BxA at e ⊢
    rw [G.g.block _ (Array.getElem?_eq_some_iff.1 e).1 (fun h => by simp at h; omega)]
    exact e
  have GG2 : Hid (w.grownBy w2 (some R)) := grown_trans' GG1.out G.g
  clear G
  have z0 : w2.cell? ⟨w.heap.size, 0, none⟩ = some (.int .i64 0) := X2.out.cell 0 _ rfl
  have f0 : w2.frozen? ⟨w.heap.size, 0, none⟩ = false := by simp [World.frozen?, show w2.heap[w.heap.size]? = _ from X2.out]
  have z1 : w2.cell? ⟨w.heap.size, 1, none⟩ = some (.int .i64 0) := X2.out.cell 1 _ rfl
  have f1 : w2.frozen? ⟨w.heap.size, 1, none⟩ = false := by simp [World.frozen?, show w2.heap[w.heap.size]? = _ from X2.out]
  have hzN : w.heap.size < w2.heap.size := World.block_lt_of_cell? _ _ z0
  obtain ⟨Y, hY⟩ : ∃ Y, Y = ((w2.setCell ⟨w.heap.size, 0, none⟩ (.int .i64 F)).setCell ⟨w.heap.size, 1, none⟩ (.int .i64 T)) := ⟨_, rfl⟩
  have y0 : Y.cell? ⟨w.heap.size, 0, none⟩ = some (.int .i64 F) := by
    rw [hY]
    rw [World.cell?_setCell_other _ _ _ _ (by simp)]
    refine World.cell?_setCell_same (u := .int .i64 0) _ _ _ ?_
    exact z0
  have y1 : Y.cell? ⟨w.heap.size, 1, none⟩ = some (.int .i64 T) := by
    rw [hY]
    refine World.cell?_setCell_same (u := .int .i64 0) _ _ _ ?_
    rw [World.cell?_setCell_other _ _ _ _ (by simp)]
    exact z1
  have bY : Below (R + 1) w2 Y := by rw [hY]; exact (((Below.refl (R + 1) w2).setCell (p := ⟨w.heap.size, 0, none⟩) hRw _).setCell (p := ⟨w.heap.size, 1, none⟩) hRw _)
  have gY : w.grownBy Y (some R) := by
    rw [hY]
    refine ⟨GG2.out.os, GG2.out.tape, GG2.out.output, by simpa using GG2.out.size, fun i hi hr => ?_⟩
    rw [Below.heap_setCell _ _ _ _ (by simp; omega), Below.heap_setCell _ _ _ _ (by simp; omega)]
    exact GG2.out.block i hi hr
  have HY : Hid (Y = _) := hY
  have HBY : Hid (Below (R + 1) w2 Y ∧ w.grownBy Y (some R)) := ⟨bY, gY⟩
  clear hY bY gY
  go_wp2_with fail
  rw [← HY.out]
  refine bodyPost_ret (v := .agg #[.int .i64 F, .int .i64 T]) (by simp [results, Try.results98, go_sem, y0, y1]) rfl ?_
  have fw1 := hple
  have GA1 : Got B R l w w1 (p, e) _ _ := ⟨G1.out.ps, GG1.out, G1.out.b⟩
  have GA2 := Got.comp hple (fwd_u l) (fwd_u l) GA1 G2.out
  refine ⟨F, T, rfl, iF, iT, ?_⟩
  exact ⟨GA2.ps.keep HBY.out.1, HBY.out.2, fun h0 h2 => by have e := GA2.b h0 h2; exact e⟩
theorem fwd_b (l : Bs) : Fwd l (skB l) := by
  refine ⟨fun s hs => ?_, fun s hs => by unfold skB; rw [if_pos hs]⟩
  unfold skB
  split
  · exact ⟨Nat.le_refl _, hs⟩
  · have e : (l.drop s.1).length = l.length - s.1 := List.length_drop
    cases h : l.drop s.1 with
    | nil => exact ⟨Nat.le_refl _, hs⟩
    | cons c r =>
      rw [h] at e
      simp only [List.length_cons] at e
      simp only
      split
      · exact ⟨Nat.le_refl _, hs⟩
      · exact ⟨Nat.le_succ _, by show s.1 + 1 ≤ l.length; omega⟩
/-- A byte that says true or false. -/
inductive GotB (B R : Nat) (l : Bs) (w : World) (p e : Nat) (er : Ending) (w' : World) : Prop
  | mk (b : Bool) (h : er = .returned (.bool b)) (g : Got B R l w w' (p, e) (skB l) (eb b)) : GotB B R l w p e er w'
set_option maxHeartbeats 1600000 in
theorem gyes (B R : Nat) (l : Bs) (w : World) (p e : Nat) (h : PS B w R l p e) :
    Calls Try.prog 105 #[.pointer (some ⟨R, 0, none⟩)] w (GotB B R l w p e) := by
  obtain ⟨hB, hp, lv, hh, hr, hn⟩ := h
  have hR : R < w.heap.size := (Array.getElem?_eq_some_iff.1 hh).1
  by_cases he : e = 0
  · subst he
    rw [if_pos rfl] at hr
    obtain ⟨ao, cap, rfl, h1, h2, h3, h4⟩ := id hr.1
    unfold maxLen at h2
    have c0 : w.cell? ⟨R, 0, none⟩ = some (.slice ao (l.drop p).length cap) := by rw [cell_of_row w R 0 _ 136 (0, 0) hh]; rfl
    have f0 : w.frozen? ⟨R, 0, none⟩ = false := frozen_of_row w R 0 _ 136 hh
    have hcl := hr.1.cells.2.2.2
    obtain ⟨s, hs⟩ : ∃ s, s = l.drop p := ⟨_, rfl⟩
    rw [← hs] at c0 hcl hr h1 hh
    have HS : Hid (s = l.drop p) := hs
    have HC : Aside _ := hcl
    have HH : Hid _ := hh
    have HR : Hid (ReadsB B w (.slice ao s.length cap) s) := hr
    clear hs hcl hh hr hn h3 h4
    cases s with
    | nil =>
      have c0' : w.cell? ⟨R, 0, none⟩ = some (.slice ao 0 cap) := c0
      clear c0
      go_enter Try.func105, Try.ntmps105
      go_wp2_with fail
      refine (fail_any w R _ _ _ HH.out).mono ?_
      rintro er w1 ⟨rfl, g1, g2⟩
      go_wp2_with fail
      go_ret
      have e : skB l (p, 0) = (p, 10) := by unfold skB; simp [← HS.out]
      exact .mk false rfl ⟨by rw [e]; exact ⟨hB, hp, _, g1, ReadsB.nil _ _, fun _ => rfl⟩, g2, fun _ h2 => by rw [e] at h2; cases h2⟩
    | cons c r =>
      obtain ⟨b, off, rfl, hcell⟩ := HC.out (by simp)
      have hc0 := hcell 0 (by simp)
      have hcb := c.toNat_lt
      obtain ⟨m, hm⟩ : ∃ m, m = (c :: r).length := ⟨_, rfl⟩
      rw [← hm] at c0 h1
      have hm1 : 1 ≤ m := by rw [hm]; simp
      have HM : Hid (m = (c :: r).length) := hm
      have hc0' : w.cell? ⟨b, off, none⟩ = some (.int .u8 (c.toNat : Int)) := hc0
      obtain ⟨X, hX⟩ : ∃ X, X = c.toNat := ⟨_, rfl⟩
      rw [← hX] at hc0' hcb
      have HX : Hid (X = c.toNat) := hX
      have fin : ∀ (q : Bool) (u : Value), eb q = [c] → X ≤ 1 → ReadsB B w u r → Got B R l w (w.setCell ⟨R, 0, none⟩ u) (p, 0) (skB l) (eb q) := fun q u hq hx1 hu => by
        have e : skB l (p, 0) = (p + 1, 0) := by
          unfold skB
          simp only [ne_eq, not_true_eq_false, if_false]
          rw [← HS.out]
          simp only
          rw [if_neg (by rw [← HX.out]; omega)]
        refine ⟨?_, grown_setCell, fun _ _ => ?_⟩
        · rw [e]
          exact last_ps (k := 0) hB hp HS.out.symm (by simp) HH.out hu
        · rw [e, hq]
          show [c] = rd l p (p + 1)
          unfold rd
          rw [← HS.out, Nat.add_sub_cancel_left]
          rfl
      have FIN : Aside _ := fin
      clear hc0 hcell HC hm hX fin
      by_cases hx1 : 1 < X
      · have hx1' : (1 : Int) < (X : Int) := by omega
        go_enter Try.func105, Try.ntmps105
        go_wp2_with fail
        refine (fail_any w R _ _ _ HH.out).mono ?_
        rintro er w1 ⟨rfl, g1, g2⟩
        go_wp2_with fail
        go_ret
        have e : skB l (p, 0) = (p, 12) := by
          unfold skB
          simp only [ne_eq, not_true_eq_false, if_false]
          rw [← HS.out]
          simp only
          rw [if_pos (by rw [← HX.out]; exact hx1)]
        exact .mk false rfl ⟨by rw [e]; exact ⟨hB, hp, _, g1, ReadsB.nil _ _, fun _ => rfl⟩, g2, fun _ h2 => by rw [e] at h2; cases h2⟩
      · have hX01 : X = 0 ∨ X = 1 := by omega
        have hc01 : ∀ q : Bool, (q = true ↔ X = 1) → eb q = [c] := fun q hq => by
          have e := HX.out
          rcases hX01 with h0 | h0
          · have hqf : q = false := by cases q with | false => rfl | true => exact absurd (hq.1 rfl) (by omega)
            rw [hqf]
            show [0] = [c]
            rw [show c = 0 from UInt8.toNat_inj.1 (by rw [← e, h0]; rfl)]
          · rw [hq.2 h0]
            show [1] = [c]
            rw [show c = 1 from UInt8.toNat_inj.1 (by rw [← e, h0]; rfl)]
        have HC01 : Aside _ := hc01
        clear hc01
        have hx1' : ¬ (1 : Int) < (X : Int) := by omega
        go_enter Try.func105, Try.ntmps105
        go_wp2
        all_goals go_ret
        · exact .mk _ rfl (FIN.out _ _ (HC01.out _ (by simp; try omega)) (by omega) (by have := ReadsB.cut_end (B := B) (w := w) (s := c :: r) 1 (m - 1) 0 (some ⟨b, off, none⟩) (by rw [← HM.out]; omega) (by omega) rfl; simpa using this))
        · exact .mk _ rfl (FIN.out _ _ (HC01.out _ (by simp; try omega)) (by omega) (by have := HR.out.cut_mid 1 (m - 1) (cap - 1) (by simp) (by rw [← HM.out]) rfl; simpa using this))
  · obtain rfl := hn he
    have c0 : w.cell? ⟨R, 0, none⟩ = some (.slice none 0 0) := by rw [cell_of_row w R 0 _ 136 (0, 0) hh]; rfl
    have HH : Hid _ := hh
    clear hr hn hh
    go_enter Try.func105, Try.ntmps105
    go_wp2_with fail
    refine (fail_any w R _ _ _ HH.out).mono ?_
    rintro er w1 ⟨rfl, g1, g2⟩
    go_wp2_with fail
    go_ret
    have es : skB l (p, e) = (p, e) := by unfold skB; rw [if_pos he]
    rw [if_neg (by omega)] at g1
    exact .mk false rfl ⟨by rw [es]; exact ⟨hB, hp, _, g1, by rw [if_neg he]; exact ReadsB.nil _ _, fun _ => rfl⟩, g2, fun h0 _ => absurd h0 he⟩
theorem fwd_span (l : Bs) : Fwd l (skSpan l) := (fwd_u l).comp (fwd_u l)
theorem fwd_seg (l : Bs) : Fwd l (skSeg l) := (((fwd_span l).comp (fwd_u l)).comp (fwd_u l)).comp (fwd_u l)
theorem fwd_agg (l : Bs) : Fwd l (skAgg l) := (fwd_u l).comp (fwd_u l)
theorem fwd_txt (l : Bs) : Fwd l (skTxt l) := fwd_l (fwd_t l)
theorem fwd_prt (l : Bs) : Fwd l (skPrt l) := ((fwd_u l).comp (fwd_u l)).comp (fwd_txt l)
theorem fwd_grp (l : Bs) : Fwd l (skGrp l) := (((fwd_u l).comp (fwd_u l)).comp (fwd_txt l)).comp (fwd_l (fwd_prt l))
set_option maxRecDepth 100000 in
set_option maxHeartbeats 3200000 in
theorem gagg (B R : Nat) (l : Bs) (w : World) (p e : Nat) (_hlb : l.length ≤ 1048576) (h : PS B w R l p e) :
    Calls Try.prog 104 #[.pointer (some ⟨R, 0, none⟩)] w fun er w' => ∃ x : Int × Int, er = .returned (.agg #[.int .i64 x.1, .int .i64 x.2]) ∧ (In64 x.1 ∧ In64 x.2) ∧ Got B R l w w' (p, e) (skAgg l) (r_agg x) := by
  have hRw := h.lt
  have hple := h.le
  have h0 : PS B (w.alloc (.cells #[.int .i64 0, .int .i64 0] 128)) R l p e := h.keep ((Below.refl (R + 1) w).alloc hRw _)
  have x0 : BxA (w.alloc (.cells #[.int .i64 0, .int .i64 0] 128)) w.heap.size 128 #[.int .i64 0, .int .i64 0] := BxA.new _ _ _
  have G0 : w.grownBy (w.alloc (.cells #[.int .i64 0, .int .i64 0] 128)) (some R) := grown_alloc _ _ _
  have H0 : Hid _ := h0
  have X0 : Hid _ := x0
  have GG0 : Hid _ := G0
  clear h0 x0 G0 h
  go_enter Try.func104, Try.ntmps104
  go_wp2_with fail
  refine (gwhole B R l _ _ _ H0.out).mono ?_
  rintro er w1 ⟨F, rfl, iF, G⟩
  have G1 : Hid (Got B R l _ w1 _ _ _) := G
  have X1 : Hid (BxA w1 w.heap.size 128 #[.int .i64 0, .int .i64 0]) := by
    apply hide
    have e := X0.out
    unfold BxA at e ⊢
    rw [G.g.block _ (Array.getElem?_eq_some_iff.1 e).1 (fun h => by simp at h; omega)]
    exact e
  have GG1 : Hid (w.grownBy w1 (some R)) := grown_trans' GG0.out G.g
  clear G
  go_wp2_with fail
  refine (gwhole B R l _ _ _ G1.out.ps).mono ?_
  rintro er w2 ⟨T, rfl, iT, G⟩
  have G2 : Hid (Got B R l _ w2 _ _ _) := G
  have X2 : Hid (BxA w2 w.heap.size 128 #[.int .i64 0, .int .i64 0]) := by
    apply hide
    have e := X1.out
    unfold BxA at e ⊢
    rw [G.g.block _ (Array.getElem?_eq_some_iff.1 e).1 (fun h => by simp at h; omega)]
    exact e
  have GG2 : Hid (w.grownBy w2 (some R)) := grown_trans' GG1.out G.g
  clear G
  have z0 : w2.cell? ⟨w.heap.size, 0, none⟩ = some (.int .i64 0) := X2.out.cell 0 _ rfl
  have f0 : w2.frozen? ⟨w.heap.size, 0, none⟩ = false := by simp [World.frozen?, show w2.heap[w.heap.size]? = _ from X2.out]
  have z1 : w2.cell? ⟨w.heap.size, 1, none⟩ = some (.int .i64 0) := X2.out.cell 1 _ rfl
  have f1 : w2.frozen? ⟨w.heap.size, 1, none⟩ = false := by simp [World.frozen?, show w2.heap[w.heap.size]? = _ from X2.out]
  have hzN : w.heap.size < w2.heap.size := World.block_lt_of_cell? _ _ z0
  obtain ⟨Y, hY⟩ : ∃ Y, Y = ((w2.setCell ⟨w.heap.size, 0, none⟩ (.int .i64 F)).setCell ⟨w.heap.size, 1, none⟩ (.int .i64 T)) := ⟨_, rfl⟩
  have y0 : Y.cell? ⟨w.heap.size, 0, none⟩ = some (.int .i64 F) := by
    rw [hY]
    rw [World.cell?_setCell_other _ _ _ _ (by simp)]
    refine World.cell?_setCell_same (u := .int .i64 0) _ _ _ ?_
    exact z0
  have y1 : Y.cell? ⟨w.heap.size, 1, none⟩ = some (.int .i64 T) := by
    rw [hY]
    refine World.cell?_setCell_same (u := .int .i64 0) _ _ _ ?_
    rw [World.cell?_setCell_other _ _ _ _ (by simp)]
    exact z1
  have bY : Below (R + 1) w2 Y := by rw [hY]; exact (((Below.refl (R + 1) w2).setCell (p := ⟨w.heap.size, 0, none⟩) hRw _).setCell (p := ⟨w.heap.size, 1, none⟩) hRw _)
  have gY : w.grownBy Y (some R) := by
    rw [hY]
    refine ⟨GG2.out.os, GG2.out.tape, GG2.out.output, by simpa using GG2.out.size, fun i hi hr => ?_⟩
    rw [Below.heap_setCell _ _ _ _ (by simp; omega), Below.heap_setCell _ _ _ _ (by simp; omega)]
    exact GG2.out.block i hi hr
  have HY : Hid (Y = _) := hY
  have HBY : Hid (Below (R + 1) w2 Y ∧ w.grownBy Y (some R)) := ⟨bY, gY⟩
  clear hY bY gY
  go_wp2_with fail
  rw [← HY.out]
  refine bodyPost_ret (v := .agg #[.int .i64 F, .int .i64 T]) (by simp [results, Try.results104, go_sem, y0, y1]) rfl ?_
  have fw1 := hple
  have GA1 : Got B R l w w1 (p, e) _ _ := ⟨G1.out.ps, GG1.out, G1.out.b⟩
  have GA2 := Got.comp hple (fwd_u l) (fwd_u l) GA1 G2.out
  refine ⟨(F, T), rfl, ⟨iF, iT⟩, ?_⟩
  exact ⟨GA2.ps.keep HBY.out.1, HBY.out.2, fun h0 h2 => by have e := GA2.b h0 h2; exact e⟩
set_option maxRecDepth 100000 in
set_option maxHeartbeats 3200000 in
theorem gseg (B R : Nat) (l : Bs) (w : World) (p e : Nat) (hlb : l.length ≤ 1048576) (h : PS B w R l p e) :
    Calls Try.prog 53 #[.pointer (some ⟨R, 0, none⟩)] w fun er w' => ∃ x : Sg, er = .returned (.agg #[.int .i64 x.F, .int .i64 x.T, .int .i64 x.V, .int .i64 x.P, .int .i64 x.C]) ∧ x.In ∧ Got B R l w w' (p, e) (skSeg l) (r_seg x) := by
  have hRw := h.lt
  have hple := h.le
  have h0 : PS B (w.alloc (.cells #[.int .i64 0, .int .i64 0, .int .i64 0, .int .i64 0, .int .i64 0] 38)) R l p e := h.keep ((Below.refl (R + 1) w).alloc hRw _)
  have x0 : BxA (w.alloc (.cells #[.int .i64 0, .int .i64 0, .int .i64 0, .int .i64 0, .int .i64 0] 38)) w.heap.size 38 #[.int .i64 0, .int .i64 0, .int .i64 0, .int .i64 0, .int .i64 0] := BxA.new _ _ _
  have G0 : w.grownBy (w.alloc (.cells #[.int .i64 0, .int .i64 0, .int .i64 0, .int .i64 0, .int .i64 0] 38)) (some R) := grown_alloc _ _ _
  have H0 : Hid _ := h0
  have X0 : Hid _ := x0
  have GG0 : Hid _ := G0
  clear h0 x0 G0 h
  go_enter Try.func53, Try.ntmps53
  go_wp2_with fail
  refine (gspan B R l _ _ _ hlb H0.out).mono ?_
  rintro er w1 ⟨F, T, rfl, iF, iT, G⟩
  have G1 : Hid (Got B R l _ w1 _ _ _) := G
  have X1 : Hid (BxA w1 w.heap.size 38 #[.int .i64 0, .int .i64 0, .int .i64 0, .int .i64 0, .int .i64 0]) := by
    apply hide
    have e := X0.out
    unfold BxA at e ⊢
    rw [G.g.block _ (Array.getElem?_eq_some_iff.1 e).1 (fun h => by simp at h; omega)]
    exact e
  have GG1 : Hid (w.grownBy w1 (some R)) := grown_trans' GG0.out G.g
  clear G
  go_wp2_with fail
  refine (gwhole B R l _ _ _ G1.out.ps).mono ?_
  rintro er w2 ⟨V, rfl, iV, G⟩
  have G2 : Hid (Got B R l _ w2 _ _ _) := G
  have X2 : Hid (BxA w2 w.heap.size 38 #[.int .i64 0, .int .i64 0, .int .i64 0, .int .i64 0, .int .i64 0]) := by
    apply hide
    have e := X1.out
    unfold BxA at e ⊢
    rw [G.g.block _ (Array.getElem?_eq_some_iff.1 e).1 (fun h => by simp at h; omega)]
    exact e
  have GG2 : Hid (w.grownBy w2 (some R)) := grown_trans' GG1.out G.g
  clear G
  go_wp2_with fail
  refine (gwhole B R l _ _ _ G2.out.ps).mono ?_
  rintro er w3 ⟨P, rfl, iP, G⟩
  have G3 : Hid (Got B R l _ w3 _ _ _) := G
  have X3 : Hid (BxA w3 w.heap.size 38 #[.int .i64 0, .int .i64 0, .int .i64 0, .int .i64 0, .int .i64 0]) := by
    apply hide
    have e := X2.out
    unfold BxA at e ⊢
    rw [G.g.block _ (Array.getElem?_eq_some_iff.1 e).1 (fun h => by simp at h; omega)]
    exact e
  have GG3 : Hid (w.grownBy w3 (some R)) := grown_trans' GG2.out G.g
  clear G
  go_wp2_with fail
  refine (gwhole B R l _ _ _ G3.out.ps).mono ?_
  rintro er w4 ⟨C, rfl, iC, G⟩
  have G4 : Hid (Got B R l _ w4 _ _ _) := G
  have X4 : Hid (BxA w4 w.heap.size 38 #[.int .i64 0, .int .i64 0, .int .i64 0, .int .i64 0, .int .i64 0]) := by
    apply hide
    have e := X3.out
    unfold BxA at e ⊢
    rw [G.g.block _ (Array.getElem?_eq_some_iff.1 e).1 (fun h => by simp at h; omega)]
    exact e
  have GG4 : Hid (w.grownBy w4 (some R)) := grown_trans' GG3.out G.g
  clear G
  have z0 : w4.cell? ⟨w.heap.size, 0, none⟩ = some (.int .i64 0) := X4.out.cell 0 _ rfl
  have f0 : w4.frozen? ⟨w.heap.size, 0, none⟩ = false := by simp [World.frozen?, show w4.heap[w.heap.size]? = _ from X4.out]
  have z1 : w4.cell? ⟨w.heap.size, 1, none⟩ = some (.int .i64 0) := X4.out.cell 1 _ rfl
  have f1 : w4.frozen? ⟨w.heap.size, 1, none⟩ = false := by simp [World.frozen?, show w4.heap[w.heap.size]? = _ from X4.out]
  have z2 : w4.cell? ⟨w.heap.size, 2, none⟩ = some (.int .i64 0) := X4.out.cell 2 _ rfl
  have f2 : w4.frozen? ⟨w.heap.size, 2, none⟩ = false := by simp [World.frozen?, show w4.heap[w.heap.size]? = _ from X4.out]
  have z3 : w4.cell? ⟨w.heap.size, 3, none⟩ = some (.int .i64 0) := X4.out.cell 3 _ rfl
  have f3 : w4.frozen? ⟨w.heap.size, 3, none⟩ = false := by simp [World.frozen?, show w4.heap[w.heap.size]? = _ from X4.out]
  have z4 : w4.cell? ⟨w.heap.size, 4, none⟩ = some (.int .i64 0) := X4.out.cell 4 _ rfl
  have f4 : w4.frozen? ⟨w.heap.size, 4, none⟩ = false := by simp [World.frozen?, show w4.heap[w.heap.size]? = _ from X4.out]
  have hzN : w.heap.size < w4.heap.size := World.block_lt_of_cell? _ _ z0
  obtain ⟨Y, hY⟩ : ∃ Y, Y = (((((w4.setCell ⟨w.heap.size, 0, none⟩ (.int .i64 F)).setCell ⟨w.heap.size, 1, none⟩ (.int .i64 T)).setCell ⟨w.heap.size, 2, none⟩ (.int .i64 V)).setCell ⟨w.heap.size, 3, none⟩ (.int .i64 P)).setCell ⟨w.heap.size, 4, none⟩ (.int .i64 C)) := ⟨_, rfl⟩
  have y0 : Y.cell? ⟨w.heap.size, 0, none⟩ = some (.int .i64 F) := by
    rw [hY]
    rw [World.cell?_setCell_other _ _ _ _ (by simp)]
    rw [World.cell?_setCell_other _ _ _ _ (by simp)]
    rw [World.cell?_setCell_other _ _ _ _ (by simp)]
    rw [World.cell?_setCell_other _ _ _ _ (by simp)]
    refine World.cell?_setCell_same (u := .int .i64 0) _ _ _ ?_
    exact z0
  have y1 : Y.cell? ⟨w.heap.size, 1, none⟩ = some (.int .i64 T) := by
    rw [hY]
    rw [World.cell?_setCell_other _ _ _ _ (by simp)]
    rw [World.cell?_setCell_other _ _ _ _ (by simp)]
    rw [World.cell?_setCell_other _ _ _ _ (by simp)]
    refine World.cell?_setCell_same (u := .int .i64 0) _ _ _ ?_
    rw [World.cell?_setCell_other _ _ _ _ (by simp)]
    exact z1
  have y2 : Y.cell? ⟨w.heap.size, 2, none⟩ = some (.int .i64 V) := by
    rw [hY]
    rw [World.cell?_setCell_other _ _ _ _ (by simp)]
    rw [World.cell?_setCell_other _ _ _ _ (by simp)]
    refine World.cell?_setCell_same (u := .int .i64 0) _ _ _ ?_
    rw [World.cell?_setCell_other _ _ _ _ (by simp)]
    rw [World.cell?_setCell_other _ _ _ _ (by simp)]
    exact z2
  have y3 : Y.cell? ⟨w.heap.size, 3, none⟩ = some (.int .i64 P) := by
    rw [hY]
    rw [World.cell?_setCell_other _ _ _ _ (by simp)]
    refine World.cell?_setCell_same (u := .int .i64 0) _ _ _ ?_
    rw [World.cell?_setCell_other _ _ _ _ (by simp)]
    rw [World.cell?_setCell_other _ _ _ _ (by simp)]
    rw [World.cell?_setCell_other _ _ _ _ (by simp)]
    exact z3
  have y4 : Y.cell? ⟨w.heap.size, 4, none⟩ = some (.int .i64 C) := by
    rw [hY]
    refine World.cell?_setCell_same (u := .int .i64 0) _ _ _ ?_
    rw [World.cell?_setCell_other _ _ _ _ (by simp)]
    rw [World.cell?_setCell_other _ _ _ _ (by simp)]
    rw [World.cell?_setCell_other _ _ _ _ (by simp)]
    rw [World.cell?_setCell_other _ _ _ _ (by simp)]
    exact z4
  have bY : Below (R + 1) w4 Y := by rw [hY]; exact ((((((Below.refl (R + 1) w4).setCell (p := ⟨w.heap.size, 0, none⟩) hRw _).setCell (p := ⟨w.heap.size, 1, none⟩) hRw _).setCell (p := ⟨w.heap.size, 2, none⟩) hRw _).setCell (p := ⟨w.heap.size, 3, none⟩) hRw _).setCell (p := ⟨w.heap.size, 4, none⟩) hRw _)
  have gY : w.grownBy Y (some R) := by
    rw [hY]
    refine ⟨GG4.out.os, GG4.out.tape, GG4.out.output, by simpa using GG4.out.size, fun i hi hr => ?_⟩
    rw [Below.heap_setCell _ _ _ _ (by simp; omega), Below.heap_setCell _ _ _ _ (by simp; omega), Below.heap_setCell _ _ _ _ (by simp; omega), Below.heap_setCell _ _ _ _ (by simp; omega), Below.heap_setCell _ _ _ _ (by simp; omega)]
    exact GG4.out.block i hi hr
  have HY : Hid (Y = _) := hY
  have HBY : Hid (Below (R + 1) w4 Y ∧ w.grownBy Y (some R)) := ⟨bY, gY⟩
  clear hY bY gY
  go_wp2_with fail
  rw [← HY.out]
  refine bodyPost_ret (v := .agg #[.int .i64 F, .int .i64 T, .int .i64 V, .int .i64 P, .int .i64 C]) (by simp [results, Try.results53, go_sem, y0, y1, y2, y3, y4]) rfl ?_
  have fw1 := hple
  have GA1 : Got B R l w w1 (p, e) _ _ := ⟨G1.out.ps, GG1.out, G1.out.b⟩
  have GA2 := Got.comp hple (fwd_span l) (fwd_u l) GA1 G2.out
  have GA3 := Got.comp hple ((fwd_span l).comp (fwd_u l)) (fwd_u l) GA2 G3.out
  have GA4 := Got.comp hple (((fwd_span l).comp (fwd_u l)).comp (fwd_u l)) (fwd_u l) GA3 G4.out
  refine ⟨⟨F, T, V, P, C⟩, rfl, ⟨iF, iT, iV, iP, iC⟩, ?_⟩
  exact ⟨GA4.ps.keep HBY.out.1, HBY.out.2, fun h0 h2 => by have e := GA4.b h0 h2; simp only [List.append_assoc] at e; exact e⟩
end Go.Proofs.Ytpdlioidiobbbaa
