/- The walk of DictNone. -/
import Derived.Test.YtfhldldcfdimhaaAwake
import Derived.Test.YtfhldldcfdimhaaPre
namespace Go.Proofs.Ytfhldldcfdimhaa
open Go.RowKit Go.Shelf Go.Sort

theorem uniq_nil : uniq [] = [] := by simp [uniq, Lib.compact, Lib.compactUpTo]
theorem ok_nil : okT [] := ⟨by simp, by rw [uniq_nil]; simp⟩
theorem byts_nil : byts [] = [0] := by decide +kernel
theorem uv_zero : Num.uv 0 = [0] := by decide +kernel
theorem frm_nil (s : Str) : frm [] s = 0 := rfl
theorem bgn_nil (s : Str) : bgn [] s = 0 := rfl

set_option maxRecDepth 100000 in
set_option maxHeartbeats 16000000 in
theorem none_walk (w : World) (s : Str) (_hs : s.length ≤ 140737488351232) (z : Int) (hz1 : -9223372036854775808 ≤ z) (hz2 : z ≤ 9223372036854775807) :
    Calls Try.prog 7 #[.string ⟨s.toArray⟩, .int .i64 z] w fun e w' => e = .returned (.bool true) ∧ Below w.heap.size w w' := by
  have nd0 : ∀ w', ND w' (.pointer none) [] := fun w' => .inl ⟨rfl, rfl⟩
  have hzo : z < 0 ∨ (([] : List Str).length : Int) ≤ z := by simp; omega
  go_enter Try.func7, Try.ntmps7
  go_wp2_with fail
  refine (awake_any w).mono ?_
  rintro e w1 ⟨rfl, b1⟩
  go_wp2_with fail
  refine (text_out w1 _ [] (nd0 w1) z hzo).mono ?_
  rintro e w2 ⟨rfl, rfl⟩
  go_wp2_with fail
  refine (id_out _ _ [] s (nd0 _) (by simp)).mono ?_
  rintro e w3 ⟨rfl, b3⟩
  have bw3 := b1.trans (b3.mono b1.size)
  go_wp2_with fail
  refine (begin_any _ _ [] s (nd0 _)).mono ?_
  rintro e w4 ⟨rfl, b4⟩
  rw [frm_nil, bgn_nil]
  have bw4 := bw3.trans (b4.mono bw3.size)
  clear b1 b3 b4 bw3
  go_wp2_with fail
  refine (build_ok w4 _ [] (Rds.nil w4) (by simp) ok_nil).mono ?_
  rintro e w5 ⟨p, rfl, d5, b5⟩
  rw [uniq_nil] at d5
  have bw5 := bw4.trans (b5.mono bw4.size)
  obtain ⟨B, vv, rfl, _⟩ := id d5.ex
  clear b5 bw4
  go_wp2_with fail
  refine (text_out w5 _ [] (.inr d5) z hzo).mono ?_
  rintro e w6 ⟨rfl, rfl⟩
  go_wp2_with fail
  refine (id_out w6 _ [] s (.inr d5) (by simp)).mono ?_
  rintro e w7 ⟨rfl, b7⟩
  have d7 := d5.below b7
  have bw7 := bw5.trans (b7.mono bw5.size)
  clear d5 b7 bw5
  go_wp2_with fail
  refine (begin_any _ _ [] s (.inr d7)).mono ?_
  rintro e W ⟨rfl, b8⟩
  rw [frm_nil, bgn_nil]
  have d := d7.below b8
  have bW := bw7.trans (b8.mono bw7.size)
  clear d7 b8 bw7
  have mixed : Try.prog.follows .mixedOrders = true := by kernel_rfl
  have hd : ∀ n os, ND (grow (redrawn W n) os) (.pointer (some ⟨B, 0, none⟩)) [] := fun n os => .inr (d.below (below_regrown W n os))
  have kL0 : ∀ n os, Calls Try.prog 16 #[.pointer none] (grow (redrawn W n) os) fun e w'' => e = .returned (.int .i64 0) ∧ ∃ p : Regrown, w'' = grow (redrawn W p.d) p.os := fun n os => Calls.regrown_of ((len_any _ _ [] (nd0 _)).mono fun _ _ ⟨he, hw⟩ => ⟨he, by rw [hw]; exact Below.refl _ _⟩)
  have kF0 : ∀ n os, Calls Try.prog 20 #[.pointer none, .string ⟨s.toArray⟩] (grow (redrawn W n) os) fun e w'' => e = .returned (.int .i64 0) ∧ ∃ p : Regrown, w'' = grow (redrawn W p.d) p.os := fun n os => Calls.regrown_of (from_any _ _ [] s (nd0 _))
  have kY0 : ∀ n os, Calls Try.prog 15 #[.pointer none] (grow (redrawn W n) os) fun e w'' => e = .returned (.slice none 0 0) ∧ ∃ p : Regrown, w'' = grow (redrawn W p.d) p.os := fun n os => Calls.regrown_of ((bytes_nil _).mono fun _ _ ⟨he, hw⟩ => ⟨he, by rw [hw]; exact Below.refl _ _⟩)
  have kL : ∀ n os, Calls Try.prog 16 #[.pointer (some ⟨B, 0, none⟩)] (grow (redrawn W n) os) fun e w'' => e = .returned (.int .i64 0) ∧ ∃ p : Regrown, w'' = grow (redrawn W p.d) p.os := fun n os => Calls.regrown_of ((len_any _ _ [] (hd n os)).mono fun _ _ ⟨he, hw⟩ => ⟨he, by rw [hw]; exact Below.refl _ _⟩)
  have HBW : Hid (Below w.heap.size w W) := bW
  have HD : Hid _ := d
  clear nd0 hzo bW d hd
  go_wp2_with fail
  refine wp_region_first (C := fun w' => ∃ p : Regrown, w' = grow (redrawn W p.d) p.os) 53 8 (by assumption) rfl (by kernel_rfl) (by kernel_rfl) (by kernel_rfl) (by kernel_rfl) ⟨⟨W.drawn + 1, #[]⟩, by rw [grow_empty]; rfl⟩ ?_
  simp only [List.take_succ_cons, List.take_zero]
  repeat (quiet_step (first | with_reducible exact kL0 _ _ | with_reducible exact kF0 _ _ | with_reducible exact kY0 _ _ | with_reducible exact kL _ _))
  refine wpQuiet_nil ?_
  intro V hw'
  obtain ⟨⟨dq, osq⟩, hw''⟩ := hw'
  have hBV : Below W.heap.size W V := by rw [hw'']; exact below_regrown W dq osq
  clear hw'' kL0 kF0 kY0 kL
  have kY := bytes_any V _ [] (IDict.below HD.out hBV)
  rw [byts_nil] at kY
  refine wpAny_ready (rs := [53]) (by kernel_rfl) (by simp) ?_
  refine AllReady.cons rfl (fun K hK => ?_) AllReady.nil
  go_simp
  refine hK _ _ ?_
  clear hK K
  refine wpAny_ready (rs := [54]) (by kernel_rfl) (by simp) ?_
  refine AllReady.cons rfl (fun K hK => ?_) AllReady.nil
  go_simp
  refine kY.mono ?_
  rintro e V2 ⟨vY, rfl, oY, bY⟩
  have rY := oY.reads
  have hB2 : Below W.heap.size W V2 := hBV.trans (bY.mono hBV.size)
  clear kY bY hBV oY
  go_simp
  refine hK _ _ ?_
  clear hK K
  have kU := refuint_lit V2 0 0 rfl (by omega)
  rw [uv_zero] at kU
  have cv : ∀ w' v', Reads w' v' [0] → (convert 33 9 v').run Try.prog w' = .ok (.string ⟨#[0]⟩) w' := fun w' v' h => conv_string w' v' [0] h
  have t1 := cv V2 vY rY
  have HB2 : Hid (Below W.heap.size W V2) := hB2
  clear hB2
  refine wpAny_ready (rs := [55, 56]) (by kernel_rfl) (by simp) ?_
  refine AllReady.cons rfl (fun K hK => ?_) (AllReady.cons rfl (fun K hK => ?_) AllReady.nil)
  · go_simp
    refine hK _ _ ?_
    clear hK K
    refine wpAny_ready (rs := [56]) (by kernel_rfl) (by simp) ?_
    refine AllReady.cons rfl (fun K hK => ?_) AllReady.nil
    go_simp
    refine kU.mono ?_
    rintro e V3 ⟨vU, rfl, oU, bU⟩
    have t2 := cv V3 vU oU.reads
    have t3 := cv V3 vY (rY.below bU)
    have HB3 : Hid (Below W.heap.size W V3) := HB2.out.trans (bU.mono HB2.out.size)
    clear kU bU oU
    go_simp
    refine hK _ _ ?_
    clear hK K
    refine wpAny_ready (rs := [57]) (by kernel_rfl) (by simp) ?_
    refine AllReady.cons rfl (fun K hK => ?_) AllReady.nil
    go_simp
    refine hK _ _ ?_
    clear hK K
    refine wpAny_ready (rs := [58]) (by kernel_rfl) (by simp) ?_
    refine AllReady.cons rfl (fun K hK => ?_) AllReady.nil
    go_simp
    refine hK _ _ ?_
    clear hK K
    refine wpAny_ready (rs := [59]) (by kernel_rfl) (by simp) ?_
    refine AllReady.cons rfl (fun K hK => ?_) AllReady.nil
    go_simp
    refine hK _ _ ?_
    clear hK K
    refine wpAny_ready (rs := [60]) (by kernel_rfl) (by simp) ?_
    refine AllReady.cons rfl (fun K hK => ?_) AllReady.nil
    go_simp
    refine hK _ _ ?_
    clear hK K
    refine wpAny_done (by kernel_rfl) ?_ _
    go_wp2_with fail
    go_ret
    exact ⟨rfl, HBW.out.trans (HB3.out.mono HBW.out.size)⟩
  · go_simp
    refine kU.mono ?_
    rintro e V3 ⟨vU, rfl, oU, bU⟩
    have t2 := cv V3 vU oU.reads
    have t3 := cv V3 vY (rY.below bU)
    have HB3 : Hid (Below W.heap.size W V3) := HB2.out.trans (bU.mono HB2.out.size)
    clear kU bU oU
    go_simp
    refine hK _ _ ?_
    clear hK K
    refine wpAny_ready (rs := [55, 57]) (by kernel_rfl) (by simp) ?_
    refine AllReady.cons rfl (fun K hK => ?_) (AllReady.cons rfl (fun K hK => ?_) AllReady.nil)
    · go_simp
      refine hK _ _ ?_
      clear hK K
      refine wpAny_ready (rs := [57]) (by kernel_rfl) (by simp) ?_
      refine AllReady.cons rfl (fun K hK => ?_) AllReady.nil
      go_simp
      refine hK _ _ ?_
      clear hK K
      refine wpAny_ready (rs := [58]) (by kernel_rfl) (by simp) ?_
      refine AllReady.cons rfl (fun K hK => ?_) AllReady.nil
      go_simp
      refine hK _ _ ?_
      clear hK K
      refine wpAny_ready (rs := [59]) (by kernel_rfl) (by simp) ?_
      refine AllReady.cons rfl (fun K hK => ?_) AllReady.nil
      go_simp
      refine hK _ _ ?_
      clear hK K
      refine wpAny_ready (rs := [60]) (by kernel_rfl) (by simp) ?_
      refine AllReady.cons rfl (fun K hK => ?_) AllReady.nil
      go_simp
      refine hK _ _ ?_
      clear hK K
      refine wpAny_done (by kernel_rfl) ?_ _
      go_wp2_with fail
      go_ret
      exact ⟨rfl, HBW.out.trans (HB3.out.mono HBW.out.size)⟩
    · go_simp
      refine hK _ _ ?_
      clear hK K
      refine wpAny_ready (rs := [55]) (by kernel_rfl) (by simp) ?_
      refine AllReady.cons rfl (fun K hK => ?_) AllReady.nil
      go_simp
      refine hK _ _ ?_
      clear hK K
      refine wpAny_ready (rs := [58]) (by kernel_rfl) (by simp) ?_
      refine AllReady.cons rfl (fun K hK => ?_) AllReady.nil
      go_simp
      refine hK _ _ ?_
      clear hK K
      refine wpAny_ready (rs := [59]) (by kernel_rfl) (by simp) ?_
      refine AllReady.cons rfl (fun K hK => ?_) AllReady.nil
      go_simp
      refine hK _ _ ?_
      clear hK K
      refine wpAny_ready (rs := [60]) (by kernel_rfl) (by simp) ?_
      refine AllReady.cons rfl (fun K hK => ?_) AllReady.nil
      go_simp
      refine hK _ _ ?_
      clear hK K
      refine wpAny_done (by kernel_rfl) ?_ _
      go_wp2_with fail
      go_ret
      exact ⟨rfl, HBW.out.trans (HB3.out.mono HBW.out.size)⟩
end Go.Proofs.Ytfhldldcfdimhaa
