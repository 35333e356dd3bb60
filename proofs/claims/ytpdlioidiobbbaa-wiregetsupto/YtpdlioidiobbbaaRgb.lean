/- The program's Get. -/
import Derived.Test.YtpdlioidiobbbaaRgc
namespace Go.Proofs.Ytpdlioidiobbbaa
open Go.RowKit Go.Sort

def gfns (rb mb : Nat) : Array Value := #[.func (.func 36) #[] #[.pointer (some ⟨rb, 0, none⟩), .pointer (some ⟨mb, 0, none⟩)], .func (.func 38) #[] #[.pointer (some ⟨rb, 0, none⟩), .pointer (some ⟨mb, 0, none⟩)], .func (.func 40) #[] #[.pointer (some ⟨rb, 0, none⟩), .pointer (some ⟨mb, 0, none⟩)], .func (.func 41) #[] #[.pointer (some ⟨rb, 0, none⟩), .pointer (some ⟨mb, 0, none⟩)], .func (.func 42) #[] #[.pointer (some ⟨rb, 0, none⟩), .pointer (some ⟨mb, 0, none⟩)], .func (.func 43) #[] #[.pointer (some ⟨rb, 0, none⟩), .pointer (some ⟨mb, 0, none⟩)], .func (.func 45) #[] #[.pointer (some ⟨rb, 0, none⟩), .pointer (some ⟨mb, 0, none⟩)], .func (.func 47) #[] #[.pointer (some ⟨rb, 0, none⟩), .pointer (some ⟨mb, 0, none⟩)], .func (.func 49) #[] #[.pointer (some ⟨rb, 0, none⟩), .pointer (some ⟨mb, 0, none⟩)], .func (.func 51) #[] #[.pointer (some ⟨rb, 0, none⟩), .pointer (some ⟨mb, 0, none⟩)], .func (.func 54) #[] #[.pointer (some ⟨rb, 0, none⟩), .pointer (some ⟨mb, 0, none⟩)]]
def GSx (B R : Nat) (l : Bs) (mb : Nat) (V : World) : Nat → World → Prop
  | 0, w => GS0 B R l mb V w
  | 1, w => GS1 B R l mb V w
  | 2, w => GS2 B R l mb V w
  | 3, w => GS3 B R l mb V w
  | 4, w => GS4 B R l mb V w
  | 5, w => GS5 B R l mb V w
  | 6, w => GS6 B R l mb V w
  | 7, w => GS7 B R l mb V w
  | 8, w => GS8 B R l mb V w
  | 9, w => GS9 B R l mb V w
  | 10, w => GS10 B R l mb V w
  | _, w => GS11 B R l mb V w
theorem there_box {w : World} {g : Nat} {t : TypeId} {cs : Array Value} (h : BxA w g t cs) : w.there g 0 cs.size := fun j hj => by
  rw [Nat.zero_add]
  exact ⟨by rw [BxA.cell h j cs[j] (by simp [hj])]; rfl, BxA.free h j⟩
set_option maxRecDepth 100000 in
set_option maxHeartbeats 6400000 in
theorem gget (w : World) (v : Value) (l : Bs) (hlb : l.length ≤ 1048576) (hr : Reads w v l) : Calls Try.prog 11 #[v] w (GetP l w) := by
  obtain ⟨W1, hW1⟩ : ∃ W1, W1 = (w.alloc (.cells #[.int .i64 0, .int .i64 0, .int .i64 0, .int .u64 0, .int .u64 0, .int .u64 0, .int .i64 0, .int .u64 0, .int .i64 0, .int .i64 0, .slice none 0 0, .slice none 0 0, .int .i64 0, .int .i64 0, .int .i64 0, .int .i64 0, .slice none 0 0, .int .i64 0, .int .i64 0, .slice none 0 0, .int .i64 0, .slice none 0 0, .slice none 0 0, .int .i64 0, .int .i64 0, .int .i64 0, .int .i64 0, .int .i64 0, .int .i64 0, .int .i64 0, .int .i64 0, .int .i64 0, .bool false, .int .i64 0, .int .i64 0, .int .i64 0, .int .i64 0, .int .i64 0, .int .i64 0, .slice none 0 0, .slice none 0 0] 46)) := ⟨_, rfl⟩
  have b1 : Below w.heap.size w W1 := by rw [hW1]; exact (Below.refl _ _).alloc (Nat.le_refl _) _
  have r1 : Reads W1 v l := by
    obtain ⟨ao, cap, rfl, h1, h2, h3, h4⟩ := id hr
    refine ⟨ao, cap, rfl, h1, h2, h3, fun ad ha j u hj => ?_⟩
    have hc := h4 ad ha j u hj
    rw [b1.cell (World.block_lt_of_cell? _ _ hc)]
    exact hc
  have z1 : W1.heap.size = w.heap.size + 1 := by rw [hW1]; simp
  have kR := read_any W1 v l r1
  have kS := PS.start r1
  obtain ⟨ao, cap, rfl, -⟩ := id hr
  have x1 : BxA W1 w.heap.size 46 zmsg := by rw [hW1]; exact BxA.new _ _ _
  rw [z1] at kR kS
  have HW1 : Hid (W1 = _) := hW1
  have H1 : Hid _ := And.intro b1 (And.intro r1 (And.intro kS x1))
  have Z1 : Hid _ := z1
  clear hW1 b1 r1 z1 kS x1 hr
  go_enter Try.func11, Try.ntmps11
  go_upto_region 1 with fail
  rw [← HW1.out]
  go_wp2_with fail
  refine kR.mono ?_
  rintro er W2 ⟨rfl, rfl⟩
  obtain ⟨U, hU⟩ : ∃ U, U = (W1.alloc (.cells #[.slice ao l.length cap, .int .i64 0] 136)).alloc (.cells #[.pointer (some ⟨w.heap.size + 1, 0, none⟩)] 88) := ⟨_, rfl⟩
  have HU : Hid (U = _) := hU
  have zU : U.heap.size = w.heap.size + 1 + 1 + 1 := by rw [hU]; simp [Z1.out]
  have ZU : Hid _ := zU
  have z1 := Z1.out
  clear kR hU
  go_upto_region 2 with fail
  rw [← HU.out]
  go_upto_region 3 with (first | (refine wpList_store_new rfl 46 (.tmp 5) (.tmp 12) rfl U zmsg zmsg rfl (by rw [ZU.out]; rfl) rfl Try.msg_info rfl zmsg_all ?_))
  obtain ⟨V, hV⟩ : ∃ V, V = (U.alloc (.cells zmsg 46)).alloc (.cells #[.func (.func 36) #[] #[.pointer (some ⟨w.heap.size + 1 + 1, 0, none⟩), .pointer (some ⟨w.heap.size + 1 + 1 + 1, 0, none⟩)], .func (.func 38) #[] #[.pointer (some ⟨w.heap.size + 1 + 1, 0, none⟩), .pointer (some ⟨w.heap.size + 1 + 1 + 1, 0, none⟩)], .func (.func 40) #[] #[.pointer (some ⟨w.heap.size + 1 + 1, 0, none⟩), .pointer (some ⟨w.heap.size + 1 + 1 + 1, 0, none⟩)], .func (.func 41) #[] #[.pointer (some ⟨w.heap.size + 1 + 1, 0, none⟩), .pointer (some ⟨w.heap.size + 1 + 1 + 1, 0, none⟩)], .func (.func 42) #[] #[.pointer (some ⟨w.heap.size + 1 + 1, 0, none⟩), .pointer (some ⟨w.heap.size + 1 + 1 + 1, 0, none⟩)], .func (.func 43) #[] #[.pointer (some ⟨w.heap.size + 1 + 1, 0, none⟩), .pointer (some ⟨w.heap.size + 1 + 1 + 1, 0, none⟩)], .func (.func 45) #[] #[.pointer (some ⟨w.heap.size + 1 + 1, 0, none⟩), .pointer (some ⟨w.heap.size + 1 + 1 + 1, 0, none⟩)], .func (.func 47) #[] #[.pointer (some ⟨w.heap.size + 1 + 1, 0, none⟩), .pointer (some ⟨w.heap.size + 1 + 1 + 1, 0, none⟩)], .func (.func 49) #[] #[.pointer (some ⟨w.heap.size + 1 + 1, 0, none⟩), .pointer (some ⟨w.heap.size + 1 + 1 + 1, 0, none⟩)], .func (.func 51) #[] #[.pointer (some ⟨w.heap.size + 1 + 1, 0, none⟩), .pointer (some ⟨w.heap.size + 1 + 1 + 1, 0, none⟩)], .func (.func 54) #[] #[.pointer (some ⟨w.heap.size + 1 + 1, 0, none⟩), .pointer (some ⟨w.heap.size + 1 + 1 + 1, 0, none⟩)]] 1) := ⟨_, rfl⟩
  have HV : Hid (V = _) := hV
  obtain ⟨b1, r1, kS, x1⟩ := H1.out
  have zV : V.heap.size = w.heap.size + 5 := by rw [hV]; simp [ZU.out]
  have zU2 := ZU.out
  have bU : Below (w.heap.size + 1 + 1) (W1.alloc (.cells #[.slice ao l.length cap, .int .i64 0] 136)) U := by rw [HU.out]; exact (Below.refl _ _).alloc (by simp [Z1.out]) _
  have bW : Below (w.heap.size + 1) W1 U := by rw [HU.out]; exact ((Below.refl _ _).alloc (by simp [Z1.out]) _).alloc (by simp [Z1.out]) _
  have bUV : Below (w.heap.size + 1 + 1 + 1) U V := by rw [hV]; exact ((Below.refl _ _).alloc (by omega) _).alloc (by simp; omega) _
  have kP : PS (w.heap.size + 1) V (w.heap.size + 1) l 0 0 := (kS.keep bU).keep (bUV.mono (by omega))
  have xr : BxA V (w.heap.size + 1 + 1) 88 #[.pointer (some ⟨w.heap.size + 1, 0, none⟩)] := by
    unfold BxA
    rw [bUV.block _ (by omega), HU.out]
    have := BxA.new (W1.alloc (.cells #[.slice ao l.length cap, .int .i64 0] 136)) 88 #[.pointer (some ⟨w.heap.size + 1, 0, none⟩)]
    rw [show (W1.alloc (.cells #[.slice ao l.length cap, .int .i64 0] 136)).heap.size = w.heap.size + 1 + 1 by simp [Z1.out]] at this
    exact this
  have xo : BxA V w.heap.size 46 zmsg := by
    unfold BxA
    rw [bUV.block _ (by omega), bW.block _ (by omega)]
    exact x1
  have xm : BxA V (w.heap.size + 1 + 1 + 1) 46 zmsg := by
    rw [hV]
    unfold BxA
    rw [Below.heap_alloc _ _ _ (by simp; omega)]
    have := BxA.new U 46 zmsg
    rw [zU2] at this
    exact this
  have xs : BxA V (w.heap.size + 1 + 1 + 1 + 1) 1 (gfns (w.heap.size + 1 + 1) (w.heap.size + 1 + 1 + 1)) := by
    rw [hV]
    have := BxA.new (U.alloc (.cells zmsg 46)) 1 (gfns (w.heap.size + 1 + 1) (w.heap.size + 1 + 1 + 1))
    rw [show (U.alloc (.cells zmsg 46)).heap.size = w.heap.size + 1 + 1 + 1 + 1 by simp [zU2]] at this
    exact this
  have ht : V.there (w.heap.size + 1 + 1 + 1) 0 41 := there_box xm
  have bwV : Below w.heap.size w V := b1.trans ((bW.mono (by omega)).trans (bUV.mono (by omega)))
  have A0 : Acc (w.heap.size + 1) (w.heap.size + 1) l (w.heap.size + 1 + 1 + 1) V V (F0 l) [] := ⟨kP, rfl, rfl, rfl, Nat.le_refl _, fun _ _ _ _ => rfl, ht, fun _ => by show [] = rd l 0 0; simp [rd]⟩
  have HX : Hid (BxA V (w.heap.size + 1 + 1) 88 #[.pointer (some ⟨w.heap.size + 1, 0, none⟩)] ∧ BxA V (w.heap.size + 1 + 1 + 1 + 1) 1 (gfns (w.heap.size + 1 + 1) (w.heap.size + 1 + 1 + 1)) ∧ BxA V w.heap.size 46 zmsg) := ⟨xr, xs, xo⟩
  have HA : Hid (GSx (w.heap.size + 1) (w.heap.size + 1) l (w.heap.size + 1 + 1 + 1) V 0 V) := A0
  have HBW : Hid (Below w.heap.size w V) := bwV
  have hlz : ¬ (1048576 : Int) < (l.length : Int) := by omega
  have hR2 : (w.heap.size + 1) < V.heap.size := by omega
  have hm2 : (w.heap.size + 1 + 1 + 1) < V.heap.size := by omega
  clear hV b1 r1 kS x1 zU2 bU bW bUV kP xr xo xm xs ht bwV A0 z1 zV
  go_upto_region 4 with fail
  rw [← HV.out]
  clear zU
  go_wp2_with fail
  go_loopg [27] 11 (fun kx v27 wr => ∃ i : Nat, v27 = .int .i64 (i : Int) ∧ i ≤ 11 ∧ 11 - i ≤ kx ∧ Hid (BxA wr (w.heap.size + 1 + 1) 88 #[.pointer (some ⟨w.heap.size + 1, 0, none⟩)] ∧ BxA wr (w.heap.size + 1 + 1 + 1 + 1) 1 (gfns (w.heap.size + 1 + 1) (w.heap.size + 1 + 1 + 1)) ∧ BxA wr w.heap.size 46 zmsg) ∧ Hid (GSx (w.heap.size + 1) (w.heap.size + 1) l (w.heap.size + 1 + 1 + 1) V i wr))
  case atStart => exact ⟨0, rfl, by omega, Nat.le_refl _, HX, HA⟩
  case round =>
    obtain ⟨i, rfl, hi, hkx, HB, HS⟩ := hrel
    rcases (by omega : i = 0 ∨ i = 1 ∨ i = 2 ∨ i = 3 ∨ i = 4 ∨ i = 5 ∨ i = 6 ∨ i = 7 ∨ i = 8 ∨ i = 9 ∨ i = 10 ∨ i = 11) with rfl | rfl | rfl | rfl | rfl | rfl | rfl | rfl | rfl | rfl | rfl | rfl
    · have hs : GS0 (w.heap.size + 1) (w.heap.size + 1) l (w.heap.size + 1 + 1 + 1) V wr := HS.out
      have kC := gc1 (w.heap.size + 1) (w.heap.size + 1) l wr (w.heap.size + 1 + 1) (w.heap.size + 1 + 1 + 1) _ _ hlb HB.out.1 (gs0_ps hs).2.1 (Nat.lt_of_lt_of_le hm2 (gs0_ps hs).2.2) (by omega) (gs0_ps hs).1 (by omega) (by omega)
      have q0 : wr.cell? ⟨(w.heap.size + 1 + 1 + 1 + 1), 0, none⟩ = some (.func (.func 36) #[] #[.pointer (some ⟨w.heap.size + 1 + 1, 0, none⟩), .pointer (some ⟨w.heap.size + 1 + 1 + 1, 0, none⟩)]) := BxA.cell HB.out.2.1 0 _ rfl
      have HH : Hid _ := hs
      clear hs
      go_wp2_with fail
      refine kC.mono ?_
      rintro e w2 hC
      obtain ⟨hs2, rfl, s0⟩ := gs1 hR2 hm2 HH.out hC
      have HS2 : Hid (GSx (w.heap.size + 1) (w.heap.size + 1) l (w.heap.size + 1 + 1 + 1) V 1 w2) := hs2
      have HB2 : Hid (BxA w2 (w.heap.size + 1 + 1) 88 #[.pointer (some ⟨w.heap.size + 1, 0, none⟩)] ∧ BxA w2 (w.heap.size + 1 + 1 + 1 + 1) 1 (gfns (w.heap.size + 1 + 1) (w.heap.size + 1 + 1 + 1)) ∧ BxA w2 w.heap.size 46 zmsg) := ⟨s0.box HB.out.1 (by omega) (by omega), s0.box HB.out.2.1 (by omega) (by omega), s0.box HB.out.2.2 (by omega) (by omega)⟩
      clear hs2 s0 hC kC q0
      go_wp2_with fail
      go_roundg 10
      case measure => omega
      case rel => exact ⟨1, by go_num, by omega, by omega, HB2, HS2⟩
    · have hs : GS1 (w.heap.size + 1) (w.heap.size + 1) l (w.heap.size + 1 + 1 + 1) V wr := HS.out
      have kC := gc2 (w.heap.size + 1) (w.heap.size + 1) l wr (w.heap.size + 1 + 1) (w.heap.size + 1 + 1 + 1) _ _ hlb HB.out.1 (gs1_ps hs).2.1 (Nat.lt_of_lt_of_le hm2 (gs1_ps hs).2.2) (by omega) (gs1_ps hs).1 (by omega) (by omega)
      have q0 : wr.cell? ⟨(w.heap.size + 1 + 1 + 1 + 1), 1, none⟩ = some (.func (.func 38) #[] #[.pointer (some ⟨w.heap.size + 1 + 1, 0, none⟩), .pointer (some ⟨w.heap.size + 1 + 1 + 1, 0, none⟩)]) := BxA.cell HB.out.2.1 1 _ rfl
      have HH : Hid _ := hs
      clear hs
      go_wp2_with fail
      refine kC.mono ?_
      rintro e w2 hC
      obtain ⟨hs2, rfl, s0⟩ := gs2 hR2 hm2 HH.out hC
      have HS2 : Hid (GSx (w.heap.size + 1) (w.heap.size + 1) l (w.heap.size + 1 + 1 + 1) V 2 w2) := hs2
      have HB2 : Hid (BxA w2 (w.heap.size + 1 + 1) 88 #[.pointer (some ⟨w.heap.size + 1, 0, none⟩)] ∧ BxA w2 (w.heap.size + 1 + 1 + 1 + 1) 1 (gfns (w.heap.size + 1 + 1) (w.heap.size + 1 + 1 + 1)) ∧ BxA w2 w.heap.size 46 zmsg) := ⟨s0.box HB.out.1 (by omega) (by omega), s0.box HB.out.2.1 (by omega) (by omega), s0.box HB.out.2.2 (by omega) (by omega)⟩
      clear hs2 s0 hC kC q0
      go_wp2_with fail
      go_roundg 9
      case measure => omega
      case rel => exact ⟨2, by go_num, by omega, by omega, HB2, HS2⟩
    · have hs : GS2 (w.heap.size + 1) (w.heap.size + 1) l (w.heap.size + 1 + 1 + 1) V wr := HS.out
      have kC := gc3 (w.heap.size + 1) (w.heap.size + 1) l wr (w.heap.size + 1 + 1) (w.heap.size + 1 + 1 + 1) _ _ hlb HB.out.1 (gs2_ps hs).2.1 (Nat.lt_of_lt_of_le hm2 (gs2_ps hs).2.2) (by omega) (gs2_ps hs).1
      have q0 : wr.cell? ⟨(w.heap.size + 1 + 1 + 1 + 1), 2, none⟩ = some (.func (.func 40) #[] #[.pointer (some ⟨w.heap.size + 1 + 1, 0, none⟩), .pointer (some ⟨w.heap.size + 1 + 1 + 1, 0, none⟩)]) := BxA.cell HB.out.2.1 2 _ rfl
      have HH : Hid _ := hs
      clear hs
      go_wp2_with fail
      refine kC.mono ?_
      rintro e w2 hC
      obtain ⟨hs2, rfl, s0⟩ := gs3 hR2 hm2 HH.out hC
      have HS2 : Hid (GSx (w.heap.size + 1) (w.heap.size + 1) l (w.heap.size + 1 + 1 + 1) V 3 w2) := hs2
      have HB2 : Hid (BxA w2 (w.heap.size + 1 + 1) 88 #[.pointer (some ⟨w.heap.size + 1, 0, none⟩)] ∧ BxA w2 (w.heap.size + 1 + 1 + 1 + 1) 1 (gfns (w.heap.size + 1 + 1) (w.heap.size + 1 + 1 + 1)) ∧ BxA w2 w.heap.size 46 zmsg) := ⟨s0.box HB.out.1 (by omega) (by omega), s0.box HB.out.2.1 (by omega) (by omega), s0.box HB.out.2.2 (by omega) (by omega)⟩
      clear hs2 s0 hC kC q0
      go_wp2_with fail
      go_roundg 8
      case measure => omega
      case rel => exact ⟨3, by go_num, by omega, by omega, HB2, HS2⟩
    · have hs : GS3 (w.heap.size + 1) (w.heap.size + 1) l (w.heap.size + 1 + 1 + 1) V wr := HS.out
      have kC := gc4 (w.heap.size + 1) (w.heap.size + 1) l wr (w.heap.size + 1 + 1) (w.heap.size + 1 + 1 + 1) _ _ hlb HB.out.1 (gs3_ps hs).2.1 (Nat.lt_of_lt_of_le hm2 (gs3_ps hs).2.2) (by omega) (gs3_ps hs).1
      have q0 : wr.cell? ⟨(w.heap.size + 1 + 1 + 1 + 1), 3, none⟩ = some (.func (.func 41) #[] #[.pointer (some ⟨w.heap.size + 1 + 1, 0, none⟩), .pointer (some ⟨w.heap.size + 1 + 1 + 1, 0, none⟩)]) := BxA.cell HB.out.2.1 3 _ rfl
      have HH : Hid _ := hs
      clear hs
      go_wp2_with fail
      refine kC.mono ?_
      rintro e w2 hC
      obtain ⟨hs2, rfl, s0⟩ := gs4 hR2 hm2 HH.out hC
      have HS2 : Hid (GSx (w.heap.size + 1) (w.heap.size + 1) l (w.heap.size + 1 + 1 + 1) V 4 w2) := hs2
      have HB2 : Hid (BxA w2 (w.heap.size + 1 + 1) 88 #[.pointer (some ⟨w.heap.size + 1, 0, none⟩)] ∧ BxA w2 (w.heap.size + 1 + 1 + 1 + 1) 1 (gfns (w.heap.size + 1 + 1) (w.heap.size + 1 + 1 + 1)) ∧ BxA w2 w.heap.size 46 zmsg) := ⟨s0.box HB.out.1 (by omega) (by omega), s0.box HB.out.2.1 (by omega) (by omega), s0.box HB.out.2.2 (by omega) (by omega)⟩
      clear hs2 s0 hC kC q0
      go_wp2_with fail
      go_roundg 7
      case measure => omega
      case rel => exact ⟨4, by go_num, by omega, by omega, HB2, HS2⟩
    · have hs : GS4 (w.heap.size + 1) (w.heap.size + 1) l (w.heap.size + 1 + 1 + 1) V wr := HS.out
      have kC := gc5 (w.heap.size + 1) (w.heap.size + 1) l wr (w.heap.size + 1 + 1) (w.heap.size + 1 + 1 + 1) _ _ hlb HB.out.1 (gs4_ps hs).2.1 (Nat.lt_of_lt_of_le hm2 (gs4_ps hs).2.2) (by omega) (gs4_ps hs).1
      have q0 : wr.cell? ⟨(w.heap.size + 1 + 1 + 1 + 1), 4, none⟩ = some (.func (.func 42) #[] #[.pointer (some ⟨w.heap.size + 1 + 1, 0, none⟩), .pointer (some ⟨w.heap.size + 1 + 1 + 1, 0, none⟩)]) := BxA.cell HB.out.2.1 4 _ rfl
      have HH : Hid _ := hs
      clear hs
      go_wp2_with fail
      refine kC.mono ?_
      rintro e w2 hC
      obtain ⟨hs2, rfl, s0⟩ := gs5 hR2 hm2 HH.out hC
      have HS2 : Hid (GSx (w.heap.size + 1) (w.heap.size + 1) l (w.heap.size + 1 + 1 + 1) V 5 w2) := hs2
      have HB2 : Hid (BxA w2 (w.heap.size + 1 + 1) 88 #[.pointer (some ⟨w.heap.size + 1, 0, none⟩)] ∧ BxA w2 (w.heap.size + 1 + 1 + 1 + 1) 1 (gfns (w.heap.size + 1 + 1) (w.heap.size + 1 + 1 + 1)) ∧ BxA w2 w.heap.size 46 zmsg) := ⟨s0.box HB.out.1 (by omega) (by omega), s0.box HB.out.2.1 (by omega) (by omega), s0.box HB.out.2.2 (by omega) (by omega)⟩
      clear hs2 s0 hC kC q0
      go_wp2_with fail
      go_roundg 6
      case measure => omega
      case rel => exact ⟨5, by go_num, by omega, by omega, HB2, HS2⟩
    · have hs : GS5 (w.heap.size + 1) (w.heap.size + 1) l (w.heap.size + 1 + 1 + 1) V wr := HS.out
      have kC := gc6 (w.heap.size + 1) (w.heap.size + 1) l wr (w.heap.size + 1 + 1) (w.heap.size + 1 + 1 + 1) _ _ hlb HB.out.1 (gs5_ps hs).2.1 (Nat.lt_of_lt_of_le hm2 (gs5_ps hs).2.2) (by omega) (gs5_ps hs).1
      have q0 : wr.cell? ⟨(w.heap.size + 1 + 1 + 1 + 1), 5, none⟩ = some (.func (.func 43) #[] #[.pointer (some ⟨w.heap.size + 1 + 1, 0, none⟩), .pointer (some ⟨w.heap.size + 1 + 1 + 1, 0, none⟩)]) := BxA.cell HB.out.2.1 5 _ rfl
      have HH : Hid _ := hs
      clear hs
      go_wp2_with fail
      refine kC.mono ?_
      rintro e w2 hC
      obtain ⟨hs2, rfl, s0⟩ := gs6 hR2 hm2 HH.out hC
      have HS2 : Hid (GSx (w.heap.size + 1) (w.heap.size + 1) l (w.heap.size + 1 + 1 + 1) V 6 w2) := hs2
      have HB2 : Hid (BxA w2 (w.heap.size + 1 + 1) 88 #[.pointer (some ⟨w.heap.size + 1, 0, none⟩)] ∧ BxA w2 (w.heap.size + 1 + 1 + 1 + 1) 1 (gfns (w.heap.size + 1 + 1) (w.heap.size + 1 + 1 + 1)) ∧ BxA w2 w.heap.size 46 zmsg) := ⟨s0.box HB.out.1 (by omega) (by omega), s0.box HB.out.2.1 (by omega) (by omega), s0.box HB.out.2.2 (by omega) (by omega)⟩
      clear hs2 s0 hC kC q0
      go_wp2_with fail
      go_roundg 5
      case measure => omega
      case rel => exact ⟨6, by go_num, by omega, by omega, HB2, HS2⟩
    · have hs : GS6 (w.heap.size + 1) (w.heap.size + 1) l (w.heap.size + 1 + 1 + 1) V wr := HS.out
      have kC := gc7 (w.heap.size + 1) (w.heap.size + 1) l wr (w.heap.size + 1 + 1) (w.heap.size + 1 + 1 + 1) _ _ hlb HB.out.1 (gs6_ps hs).2.1 (Nat.lt_of_lt_of_le hm2 (gs6_ps hs).2.2) (by omega) (gs6_ps hs).1
      have q0 : wr.cell? ⟨(w.heap.size + 1 + 1 + 1 + 1), 6, none⟩ = some (.func (.func 45) #[] #[.pointer (some ⟨w.heap.size + 1 + 1, 0, none⟩), .pointer (some ⟨w.heap.size + 1 + 1 + 1, 0, none⟩)]) := BxA.cell HB.out.2.1 6 _ rfl
      have HH : Hid _ := hs
      clear hs
      go_wp2_with fail
      refine kC.mono ?_
      rintro e w2 hC
      obtain ⟨hs2, rfl, s0⟩ := gs7 hR2 hm2 HH.out hC
      have HS2 : Hid (GSx (w.heap.size + 1) (w.heap.size + 1) l (w.heap.size + 1 + 1 + 1) V 7 w2) := hs2
      have HB2 : Hid (BxA w2 (w.heap.size + 1 + 1) 88 #[.pointer (some ⟨w.heap.size + 1, 0, none⟩)] ∧ BxA w2 (w.heap.size + 1 + 1 + 1 + 1) 1 (gfns (w.heap.size + 1 + 1) (w.heap.size + 1 + 1 + 1)) ∧ BxA w2 w.heap.size 46 zmsg) := ⟨s0.box HB.out.1 (by omega) (by omega), s0.box HB.out.2.1 (by omega) (by omega), s0.box HB.out.2.2 (by omega) (by omega)⟩
      clear hs2 s0 hC kC q0
      go_wp2_with fail
      go_roundg 4
      case measure => omega
      case rel => exact ⟨7, by go_num, by omega, by omega, HB2, HS2⟩
    · have hs : GS7 (w.heap.size + 1) (w.heap.size + 1) l (w.heap.size + 1 + 1 + 1) V wr := HS.out
      have kC := gc8 (w.heap.size + 1) (w.heap.size + 1) l wr (w.heap.size + 1 + 1) (w.heap.size + 1 + 1 + 1) _ _ hlb HB.out.1 (gs7_ps hs).2.1 (Nat.lt_of_lt_of_le hm2 (gs7_ps hs).2.2) (by omega) (gs7_ps hs).1
      have q0 : wr.cell? ⟨(w.heap.size + 1 + 1 + 1 + 1), 7, none⟩ = some (.func (.func 47) #[] #[.pointer (some ⟨w.heap.size + 1 + 1, 0, none⟩), .pointer (some ⟨w.heap.size + 1 + 1 + 1, 0, none⟩)]) := BxA.cell HB.out.2.1 7 _ rfl
      have HH : Hid _ := hs
      clear hs
      go_wp2_with fail
      refine kC.mono ?_
      rintro e w2 hC
      obtain ⟨hs2, rfl, s0⟩ := gs8 hR2 hm2 HH.out hC
      have HS2 : Hid (GSx (w.heap.size + 1) (w.heap.size + 1) l (w.heap.size + 1 + 1 + 1) V 8 w2) := hs2
      have HB2 : Hid (BxA w2 (w.heap.size + 1 + 1) 88 #[.pointer (some ⟨w.heap.size + 1, 0, none⟩)] ∧ BxA w2 (w.heap.size + 1 + 1 + 1 + 1) 1 (gfns (w.heap.size + 1 + 1) (w.heap.size + 1 + 1 + 1)) ∧ BxA w2 w.heap.size 46 zmsg) := ⟨s0.box HB.out.1 (by omega) (by omega), s0.box HB.out.2.1 (by omega) (by omega), s0.box HB.out.2.2 (by omega) (by omega)⟩
      clear hs2 s0 hC kC q0
      go_wp2_with fail
      go_roundg 3
      case measure => omega
      case rel => exact ⟨8, by go_num, by omega, by omega, HB2, HS2⟩
    · have hs : GS8 (w.heap.size + 1) (w.heap.size + 1) l (w.heap.size + 1 + 1 + 1) V wr := HS.out
      have kC := gc9 (w.heap.size + 1) (w.heap.size + 1) l wr (w.heap.size + 1 + 1) (w.heap.size + 1 + 1 + 1) _ _ hlb HB.out.1 (gs8_ps hs).2.1 (Nat.lt_of_lt_of_le hm2 (gs8_ps hs).2.2) (by omega) (gs8_ps hs).1
      have q0 : wr.cell? ⟨(w.heap.size + 1 + 1 + 1 + 1), 8, none⟩ = some (.func (.func 49) #[] #[.pointer (some ⟨w.heap.size + 1 + 1, 0, none⟩), .pointer (some ⟨w.heap.size + 1 + 1 + 1, 0, none⟩)]) := BxA.cell HB.out.2.1 8 _ rfl
      have HH : Hid _ := hs
      clear hs
      go_wp2_with fail
      refine kC.mono ?_
      rintro e w2 hC
      obtain ⟨hs2, rfl, s0⟩ := gs9 hR2 hm2 HH.out hC
      have HS2 : Hid (GSx (w.heap.size + 1) (w.heap.size + 1) l (w.heap.size + 1 + 1 + 1) V 9 w2) := hs2
      have HB2 : Hid (BxA w2 (w.heap.size + 1 + 1) 88 #[.pointer (some ⟨w.heap.size + 1, 0, none⟩)] ∧ BxA w2 (w.heap.size + 1 + 1 + 1 + 1) 1 (gfns (w.heap.size + 1 + 1) (w.heap.size + 1 + 1 + 1)) ∧ BxA w2 w.heap.size 46 zmsg) := ⟨s0.box HB.out.1 (by omega) (by omega), s0.box HB.out.2.1 (by omega) (by omega), s0.box HB.out.2.2 (by omega) (by omega)⟩
      clear hs2 s0 hC kC q0
      go_wp2_with fail
      go_roundg 2
      case measure => omega
      case rel => exact ⟨9, by go_num, by omega, by omega, HB2, HS2⟩
    · have hs : GS9 (w.heap.size + 1) (w.heap.size + 1) l (w.heap.size + 1 + 1 + 1) V wr := HS.out
      have kC := gc10 (w.heap.size + 1) (w.heap.size + 1) l wr (w.heap.size + 1 + 1) (w.heap.size + 1 + 1 + 1) _ _ hlb HB.out.1 (gs9_ps hs).2.1 (Nat.lt_of_lt_of_le hm2 (gs9_ps hs).2.2) (by omega) (gs9_ps hs).1
      have q0 : wr.cell? ⟨(w.heap.size + 1 + 1 + 1 + 1), 9, none⟩ = some (.func (.func 51) #[] #[.pointer (some ⟨w.heap.size + 1 + 1, 0, none⟩), .pointer (some ⟨w.heap.size + 1 + 1 + 1, 0, none⟩)]) := BxA.cell HB.out.2.1 9 _ rfl
      have HH : Hid _ := hs
      clear hs
      go_wp2_with fail
      refine kC.mono ?_
      rintro e w2 hC
      obtain ⟨hs2, rfl, s0⟩ := gs10 hR2 hm2 HH.out hC
      have HS2 : Hid (GSx (w.heap.size + 1) (w.heap.size + 1) l (w.heap.size + 1 + 1 + 1) V 10 w2) := hs2
      have HB2 : Hid (BxA w2 (w.heap.size + 1 + 1) 88 #[.pointer (some ⟨w.heap.size + 1, 0, none⟩)] ∧ BxA w2 (w.heap.size + 1 + 1 + 1 + 1) 1 (gfns (w.heap.size + 1 + 1) (w.heap.size + 1 + 1 + 1)) ∧ BxA w2 w.heap.size 46 zmsg) := ⟨s0.box HB.out.1 (by omega) (by omega), s0.box HB.out.2.1 (by omega) (by omega), s0.box HB.out.2.2 (by omega) (by omega)⟩
      clear hs2 s0 hC kC q0
      go_wp2_with fail
      go_roundg 1
      case measure => omega
      case rel => exact ⟨10, by go_num, by omega, by omega, HB2, HS2⟩
    · have hs : GS10 (w.heap.size + 1) (w.heap.size + 1) l (w.heap.size + 1 + 1 + 1) V wr := HS.out
      have kC := gc11 (w.heap.size + 1) (w.heap.size + 1) l wr (w.heap.size + 1 + 1) (w.heap.size + 1 + 1 + 1) _ _ hlb HB.out.1 (gs10_ps hs).2.1 (Nat.lt_of_lt_of_le hm2 (gs10_ps hs).2.2) (by omega) (gs10_ps hs).1
      have q0 : wr.cell? ⟨(w.heap.size + 1 + 1 + 1 + 1), 10, none⟩ = some (.func (.func 54) #[] #[.pointer (some ⟨w.heap.size + 1 + 1, 0, none⟩), .pointer (some ⟨w.heap.size + 1 + 1 + 1, 0, none⟩)]) := BxA.cell HB.out.2.1 10 _ rfl
      have HH : Hid _ := hs
      clear hs
      go_wp2_with fail
      refine kC.mono ?_
      rintro e w2 hC
      obtain ⟨hs2, rfl, s0⟩ := gs11 hR2 hm2 HH.out hC
      have HS2 : Hid (GSx (w.heap.size + 1) (w.heap.size + 1) l (w.heap.size + 1 + 1 + 1) V 11 w2) := hs2
      have HB2 : Hid (BxA w2 (w.heap.size + 1 + 1) 88 #[.pointer (some ⟨w.heap.size + 1, 0, none⟩)] ∧ BxA w2 (w.heap.size + 1 + 1 + 1 + 1) 1 (gfns (w.heap.size + 1 + 1) (w.heap.size + 1 + 1 + 1)) ∧ BxA w2 w.heap.size 46 zmsg) := ⟨s0.box HB.out.1 (by omega) (by omega), s0.box HB.out.2.1 (by omega) (by omega), s0.box HB.out.2.2 (by omega) (by omega)⟩
      clear hs2 s0 hC kC q0
      go_wp2_with fail
      go_roundg 0
      case measure => omega
      case rel => exact ⟨11, by go_num, by omega, by omega, HB2, HS2⟩
    · have hs : GS11 (w.heap.size + 1) (w.heap.size + 1) l (w.heap.size + 1 + 1 + 1) V wr := HS.out
      obtain ⟨m, C, FN⟩ := gs11_fin hs
      have kE := end_p (w.heap.size + 1) wr (w.heap.size + 1) l _ _ FN.ps
      have hG : gcode l = en l (F11 l (0, 0)).1 (F11 l (0, 0)).2 := by unfold gcode; rw [F_msg]
      rw [← hG] at kE
      have c0 : wr.cell? ⟨(w.heap.size + 1 + 1), 0, none⟩ = some (.pointer (some ⟨w.heap.size + 1, 0, none⟩)) := BxA.cell HB.out.1 0 _ rfl
      have HF : Hid _ := FN
      have HG : Hid _ := hG
      have bel : Below w.heap.size w wr := HBW.out.trans (FN.bel _ (by omega) (by omega) (by omega))
      have HBL : Hid (Below w.heap.size w wr) := bel
      have i1 : (Try.prog.info? 46).map (·.size) = some C.length := by rw [FN.len]; exact Try.msg_info
      have i2 : (Try.prog.info? 46).map (·.size) = some C.toArray.size := by rw [List.size_toArray]; exact i1
      have i3 : zmsg.size = C.toArray.size := by
        have h41 : C.toArray.size = 41 := by rw [List.size_toArray]; exact FN.len
        rw [h41]
        rfl
      have HI : Hid _ := And.intro i1 (And.intro i2 i3)
      obtain ⟨E, hE⟩ : ∃ E, E = gcode l := ⟨_, rfl⟩
      rw [← hE] at kE
      have HE : Hid (E = gcode l) := hE
      clear hG bel hE FN hs i1 i2 i3
      by_cases h0 : E = 0
      · subst h0
        go_wp2_with fail
        refine kE.mono ?_
        rintro e w2 ⟨rfl, rfl⟩
        have hl2 : ¬ (1048576 : Int) < (l.length : Int) := by omega
        have hl3 : decide ((1048576 : Int) < (l.length : Int)) = false := decide_eq_false hl2
        go_wp2_with (first | (refine wpList_load_mid rfl 46 (.tmp 5) rfl (w.heap.size + 1 + 1 + 1) 0 rfl C _ HF.out.rg Try.underlying46 rfl HI.out.1 ?_) | (refine wpList_store_row rfl 46 (.tmp 2) (.tmp 44) rfl w.heap.size 46 zmsg C.toArray HB.out.2.2 rfl rfl HI.out.2.1 HI.out.2.2 HF.out.all ?_))
        refine bodyPost_ret (results_two rfl _ _ w.heap.size 46 C.toArray _ (.int .i64 0) rfl rfl (setRow_heap _ _ _ _ _ _ HB.out.2.2) Try.underlying46 rfl HI.out.2.1) rfl ?_
        have gY := setRow_grown w2 w.heap.size C.toArray
        have e0 : gcode l = 0 := HE.out.symm
        refine ⟨HBL.out.trans (grown_above gY (Nat.le_refl _) (BxA.lt HB.out.2.2)), m, ?_, (HF.out.ok.grow gY (by omega)).now, fun _ => ?_, fun h => absurd e0 h⟩
        · rw [e0, HF.out.eq]
          rfl
        · have hg0 : en l (F11 l (0, 0)).1 (F11 l (0, 0)).2 = 0 := by rw [← HG.out]; exact e0
          have hle := HF.out.ps.le
          have hby := HF.out.by'
          obtain ⟨s, hs⟩ : ∃ s, s = F11 l (0, 0) := ⟨_, rfl⟩
          rw [← hs] at hg0 hle hby
          unfold en at hg0
          by_cases he : s.2 = 0
          · rw [if_neg (by rw [he]; decide)] at hg0
            by_cases hp : s.1 < l.length
            · rw [if_pos hp] at hg0; cases hg0
            · rw [hby he, show s.1 = l.length by omega]
              simp [rd]
          · rw [if_pos he] at hg0
            exact absurd hg0 he
      · have hE1 : ¬ (E : Int) = 0 := by omega
        have hE2 : ((E : Int) == 0) = false := by simpa using h0
        have hE3 : ((E : Int) != 0) = true := by simp [bne, hE2]
        go_wp2_with fail
        refine kE.mono ?_
        rintro e w2 ⟨rfl, rfl⟩
        go_wp2_with (first | (refine wpList_store_row rfl 46 (.tmp 2) (.tmp 38) rfl w.heap.size 46 zmsg zmsg HB.out.2.2 rfl rfl Try.msg_info rfl zmsg_all ?_))
        refine bodyPost_ret (results_two rfl _ _ w.heap.size 46 zmsg _ (.int .i64 (E : Int)) rfl rfl (setRow_heap _ _ _ _ _ _ HB.out.2.2) Try.underlying46 rfl Try.msg_info) rfl ?_
        have gY := setRow_grown w2 w.heap.size zmsg
        refine ⟨HBL.out.trans (grown_above gY (Nat.le_refl _) (BxA.lt HB.out.2.2)), zeroM, ?_, zeroM_ok _, fun h => absurd (HE.out.trans h) h0, fun _ => rfl⟩
        rw [← HE.out]
        rfl
end Go.Proofs.Ytpdlioidiobbbaa
