/- The walk of WireGets. -/
import Derived.Test.YtpdlioidiobbbaaRk9
import Derived.Test.YtpdlioidiobbbaaBck
namespace Go.Proofs.Ytpdlioidiobbbaa
open Go.RowKit Go.Sort

theorem zero_res : ∃ b, rres zeroM = some b := by
  have h1 : e_fil 20 zeroM.q.t ≠ none := by decide +kernel
  have h2 : (r_msg zeroM).length ≤ 1048576 := by decide +kernel
  exact ⟨r_msg zeroM, by unfold rres; rw [if_neg h1, if_pos h2]⟩
/-- Two answers of the same bytes have one form. -/
theorem two_res {l : Bs} {w w' : World} {m n : Mm} (hlb : l.length ≤ 1048576) (hm : m.Ok w) (hn : n.Ok w') (h1 : gcode l = 0 → r_msg m = l) (h2 : gcode l ≠ 0 → m = zeroM) (k1 : gcode l = 0 → r_msg n = l) (k2 : gcode l ≠ 0 → n = zeroM) : ∃ b, rres m = some b ∧ rres n = some b := by
  by_cases h0 : gcode l = 0
  · have e1 := h1 h0
    have e2 := k1 h0
    refine ⟨l, ?_, ?_⟩
    · unfold rres
      rw [if_neg (msg_fil m hm e1 h0), if_pos (by rw [e1]; exact hlb), e1]
    · unfold rres
      rw [if_neg (msg_fil n hn e2 h0), if_pos (by rw [e2]; exact hlb), e2]
  · obtain ⟨b, hb⟩ := zero_res
    rw [h2 h0, k2 h0]
    exact ⟨b, hb, hb⟩
set_option maxRecDepth 100000 in
set_option maxHeartbeats 3200000 in
theorem gets_walk (w : World) (v : Value) (l : Bs) (hr : Reads w v l) (hlb : l.length ≤ 1048576) :
    Calls Try.prog 4 #[v] w fun e w' => e = .returned (.bool true) ∧ Below w.heap.size w w' := by
  have HR : Hid (Reads w v l) := hr
  obtain ⟨ao, cap, rfl, -⟩ := id hr
  clear hr
  go_enter Try.func4, Try.ntmps4
  go_wp2_with fail
  refine (awake_any w).mono ?_
  rintro e w2 ⟨rfl, b2⟩
  have kG := gget w2 _ l hlb (HR.out.below b2)
  have HB2 : Hid (Below w.heap.size w w2) := b2
  clear b2
  go_wp2_with fail
  refine kG.mono ?_
  rintro e w3 ⟨b3, m, rfl, hok, hl, hz⟩
  have HB3 : Hid (Below w.heap.size w w3) := HB2.out.trans (b3.mono HB2.out.size)
  obtain ⟨W, hW⟩ : ∃ W, W = w3.alloc (.cells (mcells m) 46) := ⟨_, rfl⟩
  have bW : Below w3.heap.size w3 W := by rw [hW]; exact (Below.refl _ _).alloc (Nat.le_refl _) _
  have xW : BxA W w3.heap.size 46 (mcells m) := by rw [hW]; exact BxA.new _ _ _
  have HW : Hid (W = _) := hW
  have HX : Hid (BxA W w3.heap.size 46 (mcells m)) := xW
  have HBW : Hid (Below w.heap.size w W) := HB3.out.trans (bW.mono HB3.out.size)
  have HOK : Hid (m.Ok W) := hok.up bW
  have HAL : Hid _ := mcells_all m hok
  have HL : Hid ((gcode l = 0 → r_msg m = l) ∧ (gcode l ≠ 0 → m = zeroM)) := ⟨hl, hz⟩
  have kK := kget W _ l hlb (HR.out.below HBW.out)
  obtain ⟨E, hE⟩ : ∃ E, E = gcode l := ⟨_, rfl⟩
  rw [← hE]
  have HE : Hid (E = gcode l) := hE
  clear kG b3 hok hl hz hW bW xW hE
  go_upto_region 5 with (first | (refine wpList_store_new rfl 46 (.tmp 4) (.tmp 14) rfl w3 zmsg (mcells m) rfl rfl rfl (mcells_info m) rfl HAL.out ?_))
  rw [← HW.out]
  go_wp2_with fail
  refine kK.mono ?_
  rintro e w5 ⟨b5, n, rfl, hok, hl, hz⟩
  rw [← HE.out]
  have HB5 : Hid (Below w.heap.size w w5) := HBW.out.trans (b5.mono HBW.out.size)
  obtain ⟨U, hU⟩ : ∃ U, U = w5.alloc (.cells (mcells n) 46) := ⟨_, rfl⟩
  have bU : Below w5.heap.size w5 U := by rw [hU]; exact (Below.refl _ _).alloc (Nat.le_refl _) _
  have xU : BxA U w5.heap.size 46 (mcells n) := by rw [hU]; exact BxA.new _ _ _
  have bWU : Below W.heap.size W U := b5.trans (bU.mono b5.size)
  have HU : Hid (U = _) := hU
  have HXU : Hid (BxA U w5.heap.size 46 (mcells n)) := xU
  have HX5 : Hid (BxA U w3.heap.size 46 (mcells m)) := HX.out.up bWU
  have HBU : Hid (Below w.heap.size w U) := HB5.out.trans (bU.mono HB5.out.size)
  have HAL2 : Hid _ := mcells_all n hok
  obtain ⟨b, r1, r2⟩ := two_res hlb HOK.out hok HL.out.1 HL.out.2 hl hz
  have kS := same_two U m n b (HOK.out.up bWU) (hok.up bU) r1 r2
  clear kK b5 hok hl hz hU bU xU bWU r1 r2
  go_upto_region 6 with (first | (refine wpList_store_new rfl 46 (.tmp 6) (.tmp 19) rfl w5 zmsg (mcells n) rfl rfl rfl (mcells_info n) rfl HAL2.out ?_))
  rw [← HU.out]
  go_wp2_with (first | (refine wpList_load_rowG 46 (.tmp 4) rfl w3.heap.size rfl 46 _ (0, 0) _ HX5.out Try.underlying46 rfl (mcells_info m) (by first | rfl | simp [go_sem]) ?_) | (refine wpList_load_rowG 46 (.tmp 6) rfl w5.heap.size rfl 46 _ (0, 0) _ HXU.out Try.underlying46 rfl (mcells_info n) (by first | rfl | simp [go_sem]) ?_))
  refine kS.mono ?_
  rintro e w6 ⟨rfl, b6⟩
  have HB6 : Hid (Below w.heap.size w w6) := HBU.out.trans (b6.mono HBU.out.size)
  clear kS b6
  go_wp2_with fail
  go_ret
  exact ⟨rfl, HB6.out⟩
end Go.Proofs.Ytpdlioidiobbbaa
