/- The walk of WirePuts. -/
import Derived.Test.YtpdlioidiobbbaaRfp
import Derived.Test.YtpdlioidiobbbaaAwake
namespace Go.Proofs.Ytpdlioidiobbbaa
open Go.RowKit

def r_set' (x : Value × List Int) : Bs := r_set x
theorem el_some {α : Type} (f : α → Option Bs) (g : α → Bs) (l : List α) (h : ∀ x ∈ l, f x = some (g x)) : el f l = some (Num.uv l.length ++ l.flatMap g) := by
  unfold el
  rw [encAll_some f g l h]
  rfl
theorem e_seg_some (x : Sg) : e_seg x = some (r_seg x) := rfl
theorem e_prt_some (x : Pt) : e_prt x = some (r_prt x) := by
  unfold e_prt e_prt0
  rw [e_txt_some]
  rfl
theorem e_grp_some (x : Gp) : e_grp x = some (r_grp x) := by
  unfold e_grp e_grp0
  rw [e_txt_some, el_some e_prt r_prt _ fun y _ => e_prt_some y]
  rfl
theorem e_query_some (q : Qw) (h : e_fil 20 q.t ≠ none) : e_query q = some (r_query q) := by
  unfold e_query
  rw [e_fil_some 20 q.t h, el_some e_set r_set _ fun y _ => el_some e_int ei _ fun _ _ => rfl, el_some e_agg r_agg _ fun _ _ => rfl]
  simp only [cat, e_span, e_int, r_query, r_span, List.append_assoc]
theorem e_msg_some (m : Mm) (h : e_fil 20 m.q.t ≠ none) : e_msg m = some (r_msg m) := by
  unfold e_msg e_head e_fact
  rw [e_query_some m.q h, e_txt_some, el_some e_int ei _ fun _ _ => rfl, el_some e_seg r_seg _ fun x _ => e_seg_some x, el_some e_grp r_grp _ fun x _ => e_grp_some x]
  have h1 : e_piece m.ps m.pF m.pT = some (r_seg m.ps ++ r_span m.pF m.pT) := rfl
  have h2 : e_order m.od m.os m.on = some (eb m.od ++ (r_seg m.os ++ ei m.on)) := rfl
  rw [h1, h2]
  simp only [cat, e_int, e_u, r_msg, List.append_assoc]
theorem e_msg_none (m : Mm) (h : e_fil 20 m.q.t = none) : e_msg m = none := by
  unfold e_msg e_query
  rw [h]
  simp only [cat_none, true_or, or_true]
/-- The program's answer and the reference's are one. -/
theorem put_res (m : Mm) : put (some []) (e_msg m) = rres m := by
  unfold rres
  by_cases h : e_fil 20 m.q.t = none
  · rw [if_pos h, e_msg_none m h]; rfl
  · rw [if_neg h, e_msg_some m h]
    simp [put]
set_option maxRecDepth 100000 in
set_option maxHeartbeats 6400000 in
theorem puts_walk (w : World) (m : Mm) (hm : m.Ok w) (hN : (r_msg m).length ≤ 1073741824) :
    Calls Try.prog 3 #[.agg (List.toArray ((.int .i64 m.kind) :: (.int .i64 m.frm) :: (.int .i64 m.to) :: (.int .u64 (m.id : Nat)) :: (.int .u64 (m.ask : Nat)) :: (.int .u64 (m.off : Nat)) :: (.int .i64 m.term) :: (.int .u64 (m.cnt : Nat)) :: (.int .i64 m.code) :: (.int .i64 m.ft) :: (m.fdv) :: (m.fmv) :: (.int .i64 m.q.F) :: (.int .i64 m.q.T) :: (.int .i64 m.q.t.k) :: (.int .i64 m.q.t.d) :: (m.q.t.tv) :: (.int .i64 m.q.t.lo) :: (.int .i64 m.q.t.hi) :: (m.q.t.kv) :: (.int .i64 m.q.g) :: (m.q.sv) :: (m.q.av) :: (.int .i64 m.q.G) :: (.int .i64 m.q.R) :: (.int .i64 m.ps.F) :: (.int .i64 m.ps.T) :: (.int .i64 m.ps.V) :: (.int .i64 m.ps.P) :: (.int .i64 m.ps.C) :: (.int .i64 m.pF) :: (.int .i64 m.pT) :: (.bool m.od) :: (.int .i64 m.os.F) :: (.int .i64 m.os.T) :: (.int .i64 m.os.V) :: (.int .i64 m.os.P) :: (.int .i64 m.os.C) :: (.int .i64 m.on) :: (m.sv) :: (m.gv) :: []))] w fun e w' => e = .returned (.bool true) ∧ Below w.heap.size w w' := by
  obtain ⟨za0, zn0, zc0, ze0⟩ := lst_sl hm.fd
  obtain ⟨za1, zn1, zc1, ze1⟩ := lst_sl hm.fm
  obtain ⟨za2, zn2, zc2, ze2⟩ := lst_sl (rds_lst hm.q.t.rt)
  obtain ⟨za3, zn3, zc3, ze3⟩ := lst_sl (tr_lst hm.q.t)
  obtain ⟨za4, zn4, zc4, ze4⟩ := lst_sl hm.q.s
  obtain ⟨za5, zn5, zc5, ze5⟩ := lst_sl hm.q.a
  obtain ⟨za6, zn6, zc6, ze6⟩ := lst_sl hm.s
  obtain ⟨za7, zn7, zc7, ze7⟩ := lst_sl hm.g
  have kP : ∀ (w : World), m.Ok w → _ := fun w h => wput w m h
  have kR : ∀ (w : World), m.Ok w → _ := fun w h => rput w m h hN
  have kF : ∀ (w : World), m.q.t.Ok w → _ := fun w h => parts_any _ m.q.t (Nat.lt_succ_self _) w 20000 h (by omega) (by omega)
  rw [ze0, ze1, ze2, ze3, ze4, ze5, ze6, ze7] at kP kR
  rw [ze2, ze3] at kF
  have HKP : Aside _ := kP
  have HKR : Aside _ := kR
  have HKF : Aside _ := kF
  obtain ⟨W1, hW1⟩ : ∃ W1, W1 = w.alloc (.cells (List.toArray ((.int .i64 m.kind) :: (.int .i64 m.frm) :: (.int .i64 m.to) :: (.int .u64 (m.id : Nat)) :: (.int .u64 (m.ask : Nat)) :: (.int .u64 (m.off : Nat)) :: (.int .i64 m.term) :: (.int .u64 (m.cnt : Nat)) :: (.int .i64 m.code) :: (.int .i64 m.ft) :: (.slice za0 zn0 zc0) :: (.slice za1 zn1 zc1) :: (.int .i64 m.q.F) :: (.int .i64 m.q.T) :: (.int .i64 m.q.t.k) :: (.int .i64 m.q.t.d) :: (.slice za2 zn2 zc2) :: (.int .i64 m.q.t.lo) :: (.int .i64 m.q.t.hi) :: (.slice za3 zn3 zc3) :: (.int .i64 m.q.g) :: (.slice za4 zn4 zc4) :: (.slice za5 zn5 zc5) :: (.int .i64 m.q.G) :: (.int .i64 m.q.R) :: (.int .i64 m.ps.F) :: (.int .i64 m.ps.T) :: (.int .i64 m.ps.V) :: (.int .i64 m.ps.P) :: (.int .i64 m.ps.C) :: (.int .i64 m.pF) :: (.int .i64 m.pT) :: (.bool m.od) :: (.int .i64 m.os.F) :: (.int .i64 m.os.T) :: (.int .i64 m.os.V) :: (.int .i64 m.os.P) :: (.int .i64 m.os.C) :: (.int .i64 m.on) :: (.slice za6 zn6 zc6) :: (.slice za7 zn7 zc7) :: [])) 46) := ⟨_, rfl⟩
  have g1 : Fi.Grows w W1 := by rw [hW1]; exact Fi.Grows.alloc _ _
  have x1 : BxA W1 w.heap.size 46 (mbox m m.od (.slice za0 zn0 zc0) (.slice za1 zn1 zc1) (.slice za2 zn2 zc2) (.slice za3 zn3 zc3) (.slice za4 zn4 zc4) (.slice za5 zn5 zc5) (.slice za6 zn6 zc6) (.slice za7 zn7 zc7)) := by rw [hW1]; exact BxA.new _ _ _
  have HW1 : Hid (W1 = _) := hW1
  have HB1 : Hid (Below w.heap.size w W1) := g1.below
  have HX1 : Hid (BxA W1 w.heap.size 46 (mbox m m.od (.slice za0 zn0 zc0) (.slice za1 zn1 zc1) (.slice za2 zn2 zc2) (.slice za3 zn3 zc3) (.slice za4 zn4 zc4) (.slice za5 zn5 zc5) (.slice za6 zn6 zc6) (.slice za7 zn7 zc7))) := x1
  have HM : Aside (m.Ok w) := hm
  rw [ze0, ze1, ze2, ze3, ze4, ze5, ze6, ze7]
  clear hW1 g1 x1 hm hN kP kR kF ze0 ze1 ze2 ze3 ze4 ze5 ze6 ze7
  go_enter Try.func3, Try.ntmps3
  go_upto_region 1 with fail
  rw [← HW1.out]
  go_wp2_with fail
  refine (awake_any W1).mono ?_
  rintro e w2 ⟨rfl, b2⟩
  have HB2 : Hid (Below w.heap.size w w2) := HB1.out.trans (b2.mono HB1.out.size)
  have HX2 : Hid (BxA w2 w.heap.size 46 (mbox m m.od (.slice za0 zn0 zc0) (.slice za1 zn1 zc1) (.slice za2 zn2 zc2) (.slice za3 zn3 zc3) (.slice za4 zn4 zc4) (.slice za5 zn5 zc5) (.slice za6 zn6 zc6) (.slice za7 zn7 zc7))) := HX1.out.kt (KT.of_below b2) (by decide)
  clear b2
  have q14 : w2.cell? ⟨w.heap.size, 14, none⟩ = some (.int .i64 m.q.t.k) := HX2.out.cell 14 _ rfl
  have q15 : w2.cell? ⟨w.heap.size, 15, none⟩ = some (.int .i64 m.q.t.d) := HX2.out.cell 15 _ rfl
  have q16 : w2.cell? ⟨w.heap.size, 16, none⟩ = some (.slice za2 zn2 zc2) := HX2.out.cell 16 _ rfl
  have q17 : w2.cell? ⟨w.heap.size, 17, none⟩ = some (.int .i64 m.q.t.lo) := HX2.out.cell 17 _ rfl
  have q18 : w2.cell? ⟨w.heap.size, 18, none⟩ = some (.int .i64 m.q.t.hi) := HX2.out.cell 18 _ rfl
  have q19 : w2.cell? ⟨w.heap.size, 19, none⟩ = some (.slice za3 zn3 zc3) := HX2.out.cell 19 _ rfl
  go_wp2_with fail
  clear q14 q15 q16 q17 q18 q19
  refine (HKF.out w2 (HM.out.q.t.up HB2.out)).mono ?_
  rintro e w3 ⟨z, rfl, hz0, hz1, g3⟩
  have HB3 : Hid (Below w.heap.size w w3) := HB2.out.trans (g3.below.mono HB2.out.size)
  have HX3 : Hid (BxA w3 w.heap.size 46 (mbox m m.od (.slice za0 zn0 zc0) (.slice za1 zn1 zc1) (.slice za2 zn2 zc2) (.slice za3 zn3 zc3) (.slice za4 zn4 zc4) (.slice za5 zn5 zc5) (.slice za6 zn6 zc6) (.slice za7 zn7 zc7))) := HX2.out.kt (KT.of_below g3.below) (by decide)
  clear g3
  by_cases hzn : z < 0
  · go_wp2_with fail
    go_ret
    exact ⟨rfl, HB3.out⟩
  go_wp2_with (first | (refine wpList_load_row rfl 46 _ rfl w.heap.size rfl 46 _ (0, 0) _ HX3.out Try.underlying46 rfl msg_size ?_; unfold mbox))
  refine (HKP.out w3 (HM.out.up HB3.out)).mono ?_
  rintro e w4 ⟨b4, hr4⟩
  have HB4 : Hid (Below w.heap.size w w4) := HB3.out.trans (b4.mono HB3.out.size)
  have HX4 : Hid (BxA w4 w.heap.size 46 (mbox m m.od (.slice za0 zn0 zc0) (.slice za1 zn1 zc1) (.slice za2 zn2 zc2) (.slice za3 zn3 zc3) (.slice za4 zn4 zc4) (.slice za5 zn5 zc5) (.slice za6 zn6 zc6) (.slice za7 zn7 zc7))) := HX3.out.kt (KT.of_below b4) (by decide)
  rw [put_res] at hr4
  clear b4
  obtain ⟨R, hR⟩ : ∃ R, R = rres m := ⟨_, rfl⟩
  rw [← hR] at hr4
  rcases hr4 with ⟨hn, rfl⟩ | ⟨b, v, hn, rfl, ho⟩
  · have HRN : Hid (rres m = none) := by apply hide; rw [← hR, hn]
    clear hn hR
    go_wp2_with (first | (refine wpList_load_row rfl 46 _ rfl w.heap.size rfl 46 _ (0, 0) _ HX4.out Try.underlying46 rfl msg_size ?_; unfold mbox))
    refine (HKR.out w4 (HM.out.up HB4.out)).mono ?_
    rintro e w5 ⟨b5, hr5⟩
    have HB5 : Hid (Below w.heap.size w w5) := HB4.out.trans (b5.mono HB4.out.size)
    rcases hr5 with ⟨-, rfl⟩ | ⟨b2, v2, hn2, -, -⟩
    · have hcv := conv_string w5 _ _ (Reads.nil w5)
      clear b5
      go_wp2_with fail
      go_ret
      exact ⟨rfl, HB5.out⟩
    · rw [HRN.out] at hn2; cases hn2
  · have HRN : Hid (rres m = some b) := by apply hide; rw [← hR, hn]
    have HO : Hid (Owns w4 w3.heap.size v b) := ho
    obtain ⟨va, vc, rfl⟩ := ho.shape b.length rfl
    clear hn hR ho
    go_wp2_with (first | (refine wpList_load_row rfl 46 _ rfl w.heap.size rfl 46 _ (0, 0) _ HX4.out Try.underlying46 rfl msg_size ?_; unfold mbox))
    refine (HKR.out w4 (HM.out.up HB4.out)).mono ?_
    rintro e w5 ⟨b5, hr5⟩
    have HB5 : Hid (Below w.heap.size w w5) := HB4.out.trans (b5.mono HB4.out.size)
    rcases hr5 with ⟨hn2, -⟩ | ⟨b2, v2, hn2, rfl, ho2⟩
    · rw [HRN.out] at hn2; cases hn2
    · obtain rfl : b = b2 := by rw [HRN.out] at hn2; exact Option.some.inj hn2
      have hc1 := conv_string w5 _ _ (HO.out.reads.below b5)
      have hc2 := conv_string w5 _ _ ho2.reads
      obtain ⟨v2a, v2c, rfl⟩ := ho2.shape b.length rfl
      clear b5 ho2 hn2
      go_wp2_with fail
      go_ret
      exact ⟨by simp, HB5.out⟩
end Go.Proofs.Ytpdlioidiobbbaa
