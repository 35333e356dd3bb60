/- The walk of WireOne. -/
import Derived.Test.YtpdlioidiobbbaaFof
namespace Go.Proofs.Ytpdlioidiobbbaa
open Go.RowKit Go.Sort

theorem mcells_all {w : World} (m : Mm) (h : m.Ok w) : (mcells m).all (·.oneCell') = true := by
  obtain ⟨za0, zn0, zc0, ze0⟩ := lst_sl h.fd
  obtain ⟨za1, zn1, zc1, ze1⟩ := lst_sl h.fm
  obtain ⟨za2, zn2, zc2, ze2⟩ := lst_sl (rds_lst h.q.t.rt)
  obtain ⟨za3, zn3, zc3, ze3⟩ := lst_sl (tr_lst h.q.t)
  obtain ⟨za4, zn4, zc4, ze4⟩ := lst_sl h.q.s
  obtain ⟨za5, zn5, zc5, ze5⟩ := lst_sl h.q.a
  obtain ⟨za6, zn6, zc6, ze6⟩ := lst_sl h.s
  obtain ⟨za7, zn7, zc7, ze7⟩ := lst_sl h.g
  unfold mcells
  rw [ze0, ze1, ze2, ze3, ze4, ze5, ze6, ze7]
  kernel_rfl
theorem mcells_info (m : Mm) : (Try.prog.info? 46).map (·.size) = some (mcells m).size := Try.msg_info
/-- What Put answers of a message that was read. -/
theorem put_read {l : Bs} {w : World} (m : Mm) (h : m.Ok w) (hl : r_msg m = l) (hc : gcode l = 0) (hlb : l.length ≤ 1048576) : put (some []) (e_msg m) = some l := by
  rw [put_res]
  unfold rres
  rw [if_neg (msg_fil m h hl hc), if_pos (by rw [hl]; exact hlb), hl]
set_option maxRecDepth 100000 in
set_option maxHeartbeats 3200000 in
theorem one_walk (w : World) (v : Value) (l : Bs) (hlb : l.length ≤ 1048576) (hr : Reads w v l) :
    Calls Try.prog 6 #[v] w fun e w' => e = .returned (.bool true) ∧ Below w.heap.size w w' := by
  have HR : Hid (Reads w v l) := hr
  obtain ⟨ao, cap, rfl, -⟩ := id hr
  clear hr
  go_enter Try.func6, Try.ntmps6
  go_wp2_with fail
  refine (awake_any w).mono ?_
  rintro e w2 ⟨rfl, b2⟩
  have kG := gget w2 _ l hlb (HR.out.below b2)
  have HB2 : Hid (Below w.heap.size w w2) := b2
  clear b2
  go_wp2_with fail
  refine kG.mono ?_
  rintro e w3 ⟨b3, m, rfl, hok, hl, -⟩
  have HB3 : Hid (Below w.heap.size w w3) := HB2.out.trans (b3.mono HB2.out.size)
  obtain ⟨W, hW⟩ : ∃ W, W = w3.alloc (.cells (mcells m) 46) := ⟨_, rfl⟩
  have bW : Below w3.heap.size w3 W := by rw [hW]; exact (Below.refl _ _).alloc (Nat.le_refl _) _
  have xW : BxA W w3.heap.size 46 (mcells m) := by rw [hW]; exact BxA.new _ _ _
  have HW : Hid (W = _) := hW
  have HX : Hid (BxA W w3.heap.size 46 (mcells m)) := xW
  have HBW : Hid (Below w.heap.size w W) := HB3.out.trans (bW.mono HB3.out.size)
  have HOK : Hid (m.Ok W) := hok.up bW
  have HAL : Hid _ := mcells_all m hok
  have HL : Hid (gcode l = 0 → r_msg m = l) := hl
  obtain ⟨E, hE⟩ : ∃ E, E = gcode l := ⟨_, rfl⟩
  rw [← hE]
  have HE : Hid (E = gcode l) := hE
  clear kG b3 hok hl hW bW xW hE
  go_upto_region 5 with (first | (refine wpList_store_new rfl 46 (.tmp 4) (.tmp 14) rfl w3 zmsg (mcells m) rfl rfl rfl (mcells_info m) rfl HAL.out ?_))
  rw [← HW.out]
  by_cases h0 : E = 0
  · subst h0
    have hp := put_read m HOK.out (HL.out HE.out.symm) HE.out.symm hlb
    have kP : Calls Try.prog 9 #[.agg (mcells m)] W (Puts W (put (some []) (e_msg m))) := wput W m HOK.out
    rw [hp] at kP
    clear hp
    go_wp2_with (first | (refine wpList_load_row rfl 46 _ rfl w3.heap.size rfl 46 _ (0, 0) _ HX.out Try.underlying46 rfl (mcells_info m) ?_))
    refine kP.mono ?_
    rintro e w4 ⟨b4, hr4⟩
    rcases hr4 with ⟨hn, -⟩ | ⟨b, v, hn, rfl, ho⟩
    · cases hn
    obtain rfl : l = b := Option.some.inj hn
    have HB4 : Hid (Below w.heap.size w w4) := HBW.out.trans (b4.mono HBW.out.size)
    have hc1 := conv_string w4 _ _ ho.reads
    have hc2 := conv_string w4 _ _ (HR.out.below HB4.out)
    obtain ⟨va, vc, rfl⟩ := ho.shape l.length rfl
    clear b4 ho hn kP
    go_wp2_with fail
    go_ret
    exact ⟨by simp, HB4.out⟩
  · have hE1 : ¬ (E : Int) = 0 := by omega
    have hE2 : ((E : Int) == 0) = false := by simpa using h0
    have hE3 : ((E : Int) != 0) = true := by simp [bne, hE2]
    go_wp2_with fail
    go_ret
    exact ⟨rfl, HBW.out⟩
theorem one_walk' (w : World) (v : Value) (l : Bs) (hr : Reads w v l) (hlb : l.length ≤ 1048576) :
    Calls Try.prog 6 #[v] w fun e w' => e = .returned (.bool true) ∧ Below w.heap.size w w' := one_walk w v l hlb hr
end Go.Proofs.Ytpdlioidiobbbaa
