/- The program's reader of filters. -/
import Derived.Test.YtpdlioidiobbbaaRg5
import Derived.Test.YtpdlioidiobbbaaRegW
namespace Go.Proofs.Ytpdlioidiobbbaa
open Go.RowKit Go.Sort

theorem own_rds {N e : Nat} {w : World} {v : Value} {ts : List Fi.Str} (h : w.ownsRow N e 1 v ts.length (ts.flatMap cl_str)) : Fi.Rds w v (Fi.sv ts) := by
  rw [flat_str] at h
  refine Fi.Own.rds (base := N) (e := e) ?_
  unfold Fi.Own
  rw [Fi.sv_length]
  exact h
theorem fwd_id (l : Bs) : Fwd l (fun s => s) := ⟨fun _ hs => ⟨Nat.le_refl _, hs⟩, fun _ _ => rfl⟩
theorem Got.id {B R : Nat} {l : Bs} {w w' : World} {p e : Nat} (h : PS B w' R l p e) (g : w.grownBy w' (some R)) : Got B R l w w' (p, e) (fun s => s) [] := ⟨h, g, fun _ _ => by show [] = rd l p p; simp [rd]⟩
theorem fwd_fil (l : Bs) : ∀ k, Fwd l (skFil l k)
  | 0 => by
    refine ⟨fun s hs => ?_, fun s hs => by unfold skFil; rw [if_pos hs]⟩
    unfold skFil
    split <;> exact ⟨Nat.le_refl _, hs⟩
  | k + 1 => (((((fwd_u l).comp (fwd_u l)).comp (fwd_txt l)).comp (fwd_u l)).comp (fwd_u l)).comp (fwd_l (fwd_fil l k))
/-- What the reader of filters does, with so many depths left. -/
def FilC (B R : Nat) (l : Bs) (k dp : Nat) : Prop := ∀ (w : World) (p e : Nat), PS B w R l p e → Calls Try.prog 99 #[.pointer (some ⟨R, 0, none⟩), .int .i64 (dp : Int)] w fun ev w' => ∃ x : Fi.Tr, ev = .returned (.agg #[.int .i64 x.k, .int .i64 x.d, x.tv, .int .i64 x.lo, .int .i64 x.hi, x.kv]) ∧ Win w.heap.size w' (fun w => x.Ok w) ∧ (TrIn x ∧ (∃ a n c, x.tv = .slice a n c) ∧ (∃ a n c, x.kv = .slice a n c)) ∧ Got B R l w w' (p, e) (skFil l k) (r_fil x)
set_option maxRecDepth 100000 in
set_option maxHeartbeats 3200000 in
theorem gfil_deep (B R : Nat) (l : Bs) (dp : Nat) (hd : dp = 21) : FilC B R l 0 dp := by
  intro w p e h
  have hRw := h.lt
  have hple := h.le
  obtain ⟨V, hV⟩ : ∃ V, V = (((w.alloc (.cells #[.pointer (some ⟨R, 0, none⟩)] 88)).alloc (.cells #[.int .i64 (dp : Int)] 3)).alloc (.cells #[.int .i64 0, .int .i64 0, .slice none 0 0, .int .i64 0, .int .i64 0, .slice none 0 0] 32)) := ⟨_, rfl⟩
  have zV : V.heap.size = w.heap.size + 3 := by rw [hV]; simp
  have bV : Below (R + 1) w V := by rw [hV]; exact (((Below.refl (R + 1) w).alloc hRw _).alloc (Nat.le_trans hRw (by simp)) _).alloc (Nat.le_trans hRw (by simp; omega)) _
  have hP : PS B V R l p e := h.keep bV
  have gV : w.grownBy V (some R) := by rw [hV]; exact grown_trans' (grown_trans' (grown_alloc _ _ _) (grown_alloc _ _ _)) (grown_alloc _ _ _)
  have xF : BxA V (w.heap.size + 1 + 1) 32 #[.int .i64 0, .int .i64 0, .slice none 0 0, .int .i64 0, .int .i64 0, .slice none 0 0] := by
    rw [hV]
    have := BxA.new ((w.alloc (.cells #[.pointer (some ⟨R, 0, none⟩)] 88)).alloc (.cells #[.int .i64 (dp : Int)] 3)) 32 #[.int .i64 0, .int .i64 0, .slice none 0 0, .int .i64 0, .int .i64 0, .slice none 0 0]
    simpa using this
  have xR : BxA V w.heap.size 88 #[.pointer (some ⟨R, 0, none⟩)] := by
    rw [hV]
    unfold BxA
    rw [Below.heap_alloc _ _ _ (by simp; omega), Below.heap_alloc _ _ _ (by simp)]
    exact BxA.new _ _ _
  have xD : BxA V (w.heap.size + 1) 3 #[.int .i64 (dp : Int)] := by
    rw [hV]
    unfold BxA
    rw [Below.heap_alloc _ _ _ (by simp)]
    have := BxA.new (w.alloc (.cells #[.pointer (some ⟨R, 0, none⟩)] 88)) 3 #[.int .i64 (dp : Int)]
    simpa [BxA] using this
  have hdz : (20 : Int) < (dp : Int) := by omega
  obtain ⟨hB, hp, lv, hh, hr, hn⟩ := id hP
  have kF := fail_any V R _ _ 12 hh
  have c0 : V.cell? ⟨w.heap.size, 0, none⟩ = some (.pointer (some ⟨R, 0, none⟩)) := BxA.cell xR 0 _ rfl
  have c1 : V.cell? ⟨w.heap.size + 1, 0, none⟩ = some (.int .i64 (dp : Int)) := BxA.cell xD 0 _ rfl
  have HV : Hid (V = _) := hV
  have HP : Hid (PS B V R l p e) := hP
  have HX : Hid _ := And.intro xF gV
  clear hV bV hP gV xF xR xD hh hr hn h hd
  go_enter Try.func99, Try.ntmps99
  go_upto_region 1 with fail
  rw [← HV.out]
  go_wp2_with fail
  refine kF.mono ?_
  rintro er w4 ⟨rfl, h4, g4⟩
  have XB : BxA w4 (w.heap.size + 1 + 1) 32 #[.int .i64 0, .int .i64 0, .slice none 0 0, .int .i64 0, .int .i64 0, .slice none 0 0] := BxA.grow HX.out.1 g4 (by omega)
  have H4 : Hid _ := And.intro h4 g4
  have XBH : Hid _ := XB
  have z0 : w4.cell? ⟨w.heap.size + 1 + 1, 0, none⟩ = some (.int .i64 0) := BxA.cell XB 0 _ rfl
  have f0 : w4.frozen? ⟨w.heap.size + 1 + 1, 0, none⟩ = false := BxA.free XB 0
  have z1 : w4.cell? ⟨w.heap.size + 1 + 1, 1, none⟩ = some (.int .i64 0) := BxA.cell XB 1 _ rfl
  have f1 : w4.frozen? ⟨w.heap.size + 1 + 1, 1, none⟩ = false := BxA.free XB 1
  have z2 : w4.cell? ⟨w.heap.size + 1 + 1, 2, none⟩ = some (.slice none 0 0) := BxA.cell XB 2 _ rfl
  have f2 : w4.frozen? ⟨w.heap.size + 1 + 1, 2, none⟩ = false := BxA.free XB 2
  have z3 : w4.cell? ⟨w.heap.size + 1 + 1, 3, none⟩ = some (.int .i64 0) := BxA.cell XB 3 _ rfl
  have f3 : w4.frozen? ⟨w.heap.size + 1 + 1, 3, none⟩ = false := BxA.free XB 3
  have z4 : w4.cell? ⟨w.heap.size + 1 + 1, 4, none⟩ = some (.int .i64 0) := BxA.cell XB 4 _ rfl
  have f4 : w4.frozen? ⟨w.heap.size + 1 + 1, 4, none⟩ = false := BxA.free XB 4
  have z5 : w4.cell? ⟨w.heap.size + 1 + 1, 5, none⟩ = some (.slice none 0 0) := BxA.cell XB 5 _ rfl
  have f5 : w4.frozen? ⟨w.heap.size + 1 + 1, 5, none⟩ = false := BxA.free XB 5
  obtain ⟨Y, hY⟩ : ∃ Y, Y = ((((((w4.setCell ⟨w.heap.size + 1 + 1, 0, none⟩ (.int .i64 0)).setCell ⟨w.heap.size + 1 + 1, 1, none⟩ (.int .i64 0)).setCell ⟨w.heap.size + 1 + 1, 2, none⟩ (.slice none 0 0)).setCell ⟨w.heap.size + 1 + 1, 3, none⟩ (.int .i64 0)).setCell ⟨w.heap.size + 1 + 1, 4, none⟩ (.int .i64 0)).setCell ⟨w.heap.size + 1 + 1, 5, none⟩ (.slice none 0 0)) := ⟨_, rfl⟩
  have gY : w4.grownBy Y (some (w.heap.size + 1 + 1)) := by rw [hY]; exact (grown_trans' (grown_trans' (grown_trans' (grown_trans' (grown_trans' grown_setCell grown_setCell) grown_setCell) grown_setCell) grown_setCell) grown_setCell)
  have xY : BxA Y (w.heap.size + 1 + 1) 32 #[.int .i64 0, .int .i64 0, .slice none 0 0, .int .i64 0, .int .i64 0, .slice none 0 0] := by rw [hY]; exact (BxA.set (BxA.set (BxA.set (BxA.set (BxA.set (BxA.set XB 0 (.int .i64 0)) 1 (.int .i64 0)) 2 (.slice none 0 0)) 3 (.int .i64 0)) 4 (.int .i64 0)) 5 (.slice none 0 0))
  have y0 : Y.cell? ⟨w.heap.size + 1 + 1, 0, none⟩ = some (.int .i64 0) := BxA.cell xY 0 _ rfl
  have y1 : Y.cell? ⟨w.heap.size + 1 + 1, 1, none⟩ = some (.int .i64 0) := BxA.cell xY 1 _ rfl
  have y2 : Y.cell? ⟨w.heap.size + 1 + 1, 2, none⟩ = some (.slice none 0 0) := BxA.cell xY 2 _ rfl
  have y3 : Y.cell? ⟨w.heap.size + 1 + 1, 3, none⟩ = some (.int .i64 0) := BxA.cell xY 3 _ rfl
  have y4 : Y.cell? ⟨w.heap.size + 1 + 1, 4, none⟩ = some (.int .i64 0) := BxA.cell xY 4 _ rfl
  have y5 : Y.cell? ⟨w.heap.size + 1 + 1, 5, none⟩ = some (.slice none 0 0) := BxA.cell xY 5 _ rfl
  have HY : Hid (Y = _) := hY
  have GY : Hid (w4.grownBy Y (some (w.heap.size + 1 + 1))) := gY
  have XY : Hid _ := xY
  clear hY gY xY
  clear kF h4 g4 c0 c1 XB
  go_wp2_with fail
  rw [← HY.out]
  refine bodyPost_ret (v := .agg #[.int .i64 0, .int .i64 0, .slice none 0 0, .int .i64 0, .int .i64 0, .slice none 0 0]) (by simp [results, Try.results99, go_sem, y0, y1, y2, y3, y4, y5]) rfl ?_
  have bY : Below (R + 1) w4 Y := grown_above GY.out (by omega) (BxA.lt XBH.out)
  refine ⟨Fi.Tr.mk 0 0 (.slice none 0 0) [] 0 0 (.slice none 0 0) [], rfl, ?_, ⟨⟨show In64 0 from by unfold In64; omega, show In64 0 from by unfold In64; omega, show In64 0 from by unfold In64; omega, show In64 0 from by unfold In64; omega, (fun _ h => by cases h), (fun _ h => by cases h)⟩, ⟨_, _, _, rfl⟩, ⟨_, _, _, rfl⟩⟩, ?_, fill_grown (grown_trans' HX.out.2 H4.out.2) GY.out (by omega), ?_⟩
  · exact fun w' _ _ => ⟨Fi.Rds.nil _, Fi.RdsK.nil _ _, fun _ h => by cases h⟩
  · refine PS.keep ?_ bY
    have e0 := H4.out.1
    show PS B w4 R l (skFil l 0 (p, e)).1 (skFil l 0 (p, e)).2
    unfold skFil
    by_cases he : e = 0
    · subst he
      refine ⟨HP.out.1, hple, _, e0, ReadsB.nil _ _, fun _ => rfl⟩
    · rw [if_pos he]
      rw [if_neg (by omega)] at e0
      exact ⟨HP.out.1, hple, _, e0, by rw [if_neg he]; exact ReadsB.nil _ _, fun _ => rfl⟩
  · intro h0 h2
    have h0' : e = 0 := h0
    subst h0'
    exact absurd h2 (by unfold skFil; simp)
set_option maxRecDepth 100000 in
set_option maxHeartbeats 3200000 in
theorem gfil_clo (B R : Nat) (l : Bs) (k dp : Nat) (hd : dp < 21) (hk : FilC B R l k (dp + 1)) (w : World) (bx bd p e : Nat) (hb : BxA w bx 88 #[.pointer (some ⟨R, 0, none⟩)]) (hbd : BxA w bd 3 #[.int .i64 (dp : Int)]) (h : PS B w R l p e) :
    Calls Try.prog 116 #[.pointer (some ⟨bx, 0, none⟩), .pointer (some ⟨bd, 0, none⟩)] w fun ev w' => ∃ x : Fi.Tr, ev = .returned (.agg #[.int .i64 x.k, .int .i64 x.d, x.tv, .int .i64 x.lo, .int .i64 x.hi, x.kv]) ∧ Win w.heap.size w' (fun w => x.Ok w) ∧ (TrIn x ∧ (∃ a n c, x.tv = .slice a n c) ∧ (∃ a n c, x.kv = .slice a n c)) ∧ Got B R l w w' (p, e) (skFil l k) (r_fil x) := by
  have hRw := h.lt
  obtain ⟨V, hV⟩ : ∃ V, V = (w.alloc (.cells #[.int .i64 0, .int .i64 0, .slice none 0 0, .int .i64 0, .int .i64 0, .slice none 0 0] 32)) := ⟨_, rfl⟩
  have hP : PS B V R l p e := by rw [hV]; exact h.keep ((Below.refl (R + 1) w).alloc hRw _)
  have gV : w.grownBy V (some R) := by rw [hV]; exact grown_alloc _ _ _
  have zV : V.heap.size = w.heap.size + 1 := by rw [hV]; simp
  have xF : BxA V w.heap.size 32 #[.int .i64 0, .int .i64 0, .slice none 0 0, .int .i64 0, .int .i64 0, .slice none 0 0] := by rw [hV]; exact BxA.new _ _ _
  have c0 : V.cell? ⟨bx, 0, none⟩ = some (.pointer (some ⟨R, 0, none⟩)) := by
    have : BxA V bx 88 #[.pointer (some ⟨R, 0, none⟩)] := by rw [hV]; unfold BxA; rw [Below.heap_alloc _ _ _ (BxA.lt hb)]; exact hb
    exact BxA.cell this 0 _ rfl
  have c1 : V.cell? ⟨bd, 0, none⟩ = some (.int .i64 (dp : Int)) := by
    have : BxA V bd 3 #[.int .i64 (dp : Int)] := by rw [hV]; unfold BxA; rw [Below.heap_alloc _ _ _ (BxA.lt hbd)]; exact hbd
    exact BxA.cell this 0 _ rfl
  have kF := hk V p e hP
  have ed : ((dp + 1 : Nat) : Int) = (dp : Int) + 1 := by omega
  rw [ed] at kF
  have HV : Hid (V = _) := hV
  have HX : Hid _ := And.intro xF (And.intro gV zV)
  clear hV hP gV xF h hb hbd hk zV ed
  go_enter Try.func116, Try.ntmps116
  go_upto_region 1 with fail
  rw [← HV.out]
  go_wp2_with fail
  refine kF.mono ?_
  rintro er w4 ⟨x, rfl, wx, ⟨tx, ⟨a1, n1, m1, e1⟩, ⟨a2, n2, m2, e2⟩⟩, G⟩
  have XB : BxA w4 w.heap.size 32 #[.int .i64 0, .int .i64 0, .slice none 0 0, .int .i64 0, .int .i64 0, .slice none 0 0] := BxA.grow HX.out.1 G.g (by omega)
  rw [e1, e2]
  have HG : Hid _ := And.intro wx (And.intro tx (And.intro e1 (And.intro e2 G)))
  have XBH : Hid _ := XB
  have z0 : w4.cell? ⟨w.heap.size, 0, none⟩ = some (.int .i64 0) := BxA.cell XB 0 _ rfl
  have f0 : w4.frozen? ⟨w.heap.size, 0, none⟩ = false := BxA.free XB 0
  have z1 : w4.cell? ⟨w.heap.size, 1, none⟩ = some (.int .i64 0) := BxA.cell XB 1 _ rfl
  have f1 : w4.frozen? ⟨w.heap.size, 1, none⟩ = false := BxA.free XB 1
  have z2 : w4.cell? ⟨w.heap.size, 2, none⟩ = some (.slice none 0 0) := BxA.cell XB 2 _ rfl
  have f2 : w4.frozen? ⟨w.heap.size, 2, none⟩ = false := BxA.free XB 2
  have z3 : w4.cell? ⟨w.heap.size, 3, none⟩ = some (.int .i64 0) := BxA.cell XB 3 _ rfl
  have f3 : w4.frozen? ⟨w.heap.size, 3, none⟩ = false := BxA.free XB 3
  have z4 : w4.cell? ⟨w.heap.size, 4, none⟩ = some (.int .i64 0) := BxA.cell XB 4 _ rfl
  have f4 : w4.frozen? ⟨w.heap.size, 4, none⟩ = false := BxA.free XB 4
  have z5 : w4.cell? ⟨w.heap.size, 5, none⟩ = some (.slice none 0 0) := BxA.cell XB 5 _ rfl
  have f5 : w4.frozen? ⟨w.heap.size, 5, none⟩ = false := BxA.free XB 5
  obtain ⟨Y, hY⟩ : ∃ Y, Y = ((((((w4.setCell ⟨w.heap.size, 0, none⟩ (.int .i64 x.k)).setCell ⟨w.heap.size, 1, none⟩ (.int .i64 x.d)).setCell ⟨w.heap.size, 2, none⟩ (.slice a1 n1 m1)).setCell ⟨w.heap.size, 3, none⟩ (.int .i64 x.lo)).setCell ⟨w.heap.size, 4, none⟩ (.int .i64 x.hi)).setCell ⟨w.heap.size, 5, none⟩ (.slice a2 n2 m2)) := ⟨_, rfl⟩
  have gY : w4.grownBy Y (some (w.heap.size)) := by rw [hY]; exact (grown_trans' (grown_trans' (grown_trans' (grown_trans' (grown_trans' grown_setCell grown_setCell) grown_setCell) grown_setCell) grown_setCell) grown_setCell)
  have xY : BxA Y (w.heap.size) 32 #[.int .i64 x.k, .int .i64 x.d, .slice a1 n1 m1, .int .i64 x.lo, .int .i64 x.hi, .slice a2 n2 m2] := by rw [hY]; exact (BxA.set (BxA.set (BxA.set (BxA.set (BxA.set (BxA.set XB 0 (.int .i64 x.k)) 1 (.int .i64 x.d)) 2 (.slice a1 n1 m1)) 3 (.int .i64 x.lo)) 4 (.int .i64 x.hi)) 5 (.slice a2 n2 m2))
  have y0 : Y.cell? ⟨w.heap.size, 0, none⟩ = some (.int .i64 x.k) := BxA.cell xY 0 _ rfl
  have y1 : Y.cell? ⟨w.heap.size, 1, none⟩ = some (.int .i64 x.d) := BxA.cell xY 1 _ rfl
  have y2 : Y.cell? ⟨w.heap.size, 2, none⟩ = some (.slice a1 n1 m1) := BxA.cell xY 2 _ rfl
  have y3 : Y.cell? ⟨w.heap.size, 3, none⟩ = some (.int .i64 x.lo) := BxA.cell xY 3 _ rfl
  have y4 : Y.cell? ⟨w.heap.size, 4, none⟩ = some (.int .i64 x.hi) := BxA.cell xY 4 _ rfl
  have y5 : Y.cell? ⟨w.heap.size, 5, none⟩ = some (.slice a2 n2 m2) := BxA.cell xY 5 _ rfl
  have HY : Hid (Y = _) := hY
  have GY : Hid (w4.grownBy Y (some (w.heap.size))) := gY
  have XY : Hid _ := xY
  clear hY gY xY
  clear kF wx tx e1 e2 G c0 c1 XB
  go_wp2_with fail
  rw [← HY.out]
  refine bodyPost_ret (v := .agg #[.int .i64 x.k, .int .i64 x.d, .slice a1 n1 m1, .int .i64 x.lo, .int .i64 x.hi, .slice a2 n2 m2]) (by simp [results, Try.results116, go_sem, y0, y1, y2, y3, y4, y5]) rfl ?_
  obtain ⟨wx, tx, e1, e2, G⟩ := HG.out
  have bY : Below (R + 1) w4 Y := grown_above GY.out (by omega) (BxA.lt XBH.out)
  refine ⟨x, by rw [e1, e2], ?_, ⟨tx, ⟨_, _, _, e1⟩, ⟨_, _, _, e2⟩⟩, G.ps.keep bY, fill_grown (grown_trans' HX.out.2.1 G.g) GY.out (Nat.le_refl _), G.b⟩
  exact (wx.grow GY.out (by rw [HX.out.2.2]; omega)).mono (by rw [HX.out.2.2]; omega)
theorem BxA.ktt' {T : List TypeId} {w w' : World} {g : Nat} {t : TypeId} {cs : Array Value} (h : BxA w g t cs) (k : KTT T w w') (ht : t ∉ T) : BxA w' g t cs := k.2 g cs t (0, 0) h ht
set_option maxRecDepth 100000 in
set_option maxHeartbeats 6400000 in
theorem gfil_step (B R : Nat) (l : Bs) (k dp : Nat) (hd : dp + k = 20) (hlb : l.length ≤ 1048576) (hI : FilC B R l k (dp + 1)) : FilC B R l (k + 1) dp := by
  intro w p e h
  have hRw := h.lt
  have hple := h.le
  obtain ⟨V, hV⟩ : ∃ V, V = (((w.alloc (.cells #[.pointer (some ⟨R, 0, none⟩)] 88)).alloc (.cells #[.int .i64 (dp : Int)] 3)).alloc (.cells #[.int .i64 0, .int .i64 0, .slice none 0 0, .int .i64 0, .int .i64 0, .slice none 0 0] 32)) := ⟨_, rfl⟩
  have zV : V.heap.size = w.heap.size + 3 := by rw [hV]; simp
  have bV : Below (R + 1) w V := by rw [hV]; exact (((Below.refl (R + 1) w).alloc hRw _).alloc (Nat.le_trans hRw (by simp)) _).alloc (Nat.le_trans hRw (by simp; omega)) _
  have hP : PS B V R l p e := h.keep bV
  have gV : w.grownBy V (some R) := by rw [hV]; exact grown_trans' (grown_trans' (grown_alloc _ _ _) (grown_alloc _ _ _)) (grown_alloc _ _ _)
  have xF : BxA V (w.heap.size + 1 + 1) 32 #[.int .i64 0, .int .i64 0, .slice none 0 0, .int .i64 0, .int .i64 0, .slice none 0 0] := by
    rw [hV]
    have := BxA.new ((w.alloc (.cells #[.pointer (some ⟨R, 0, none⟩)] 88)).alloc (.cells #[.int .i64 (dp : Int)] 3)) 32 #[.int .i64 0, .int .i64 0, .slice none 0 0, .int .i64 0, .int .i64 0, .slice none 0 0]
    simpa using this
  have xR : BxA V w.heap.size 88 #[.pointer (some ⟨R, 0, none⟩)] := by
    rw [hV]
    unfold BxA
    rw [Below.heap_alloc _ _ _ (by simp; omega), Below.heap_alloc _ _ _ (by simp)]
    exact BxA.new _ _ _
  have xD : BxA V (w.heap.size + 1) 3 #[.int .i64 (dp : Int)] := by
    rw [hV]
    unfold BxA
    rw [Below.heap_alloc _ _ _ (by simp)]
    have := BxA.new (w.alloc (.cells #[.pointer (some ⟨R, 0, none⟩)] 88)) 3 #[.int .i64 (dp : Int)]
    simpa [BxA] using this
  have hdz : ¬ (20 : Int) < (dp : Int) := by omega
  have hd2 : dp < 21 := by omega
  have mixed : Try.prog.follows .mixedOrders = true := by kernel_rfl
  have c0 : V.cell? ⟨w.heap.size, 0, none⟩ = some (.pointer (some ⟨R, 0, none⟩)) := BxA.cell xR 0 _ rfl
  have c1 : V.cell? ⟨w.heap.size + 1, 0, none⟩ = some (.int .i64 (dp : Int)) := BxA.cell xD 0 _ rfl
  have HV : Hid (V = _) := hV
  have hSig0 : BxA V.drew w.heap.size 88 #[.pointer (some ⟨R, 0, none⟩)] ∧ BxA V.drew (w.heap.size + 1) 3 #[.int .i64 (dp : Int)] := ⟨xR, xD⟩
  have hS00 : BxA V.drew (w.heap.size + 1 + 1) 32 #[.int .i64 0, .int .i64 0, .slice none 0 0, .int .i64 0, .int .i64 0, .slice none 0 0] ∧ Got B R l w V.drew (p, e) (fun s => s) [] := ⟨xF, Got.id hP ⟨gV.os, gV.tape, gV.output, gV.size, gV.block⟩⟩
  clear hV bV hP gV xF xR xD h
  go_enter Try.func99, Try.ntmps99
  go_upto_region 1 with fail
  rw [← HV.out]
  go_upto_region 4 with fail
  refine wp_region_invF (β := Value × Value × Value × Value × Value × Value × Value × Value × Value × Value × Value × Value × Value × Value × Value × Value) (fun a0 xq => ((((((((((((((((a0.put (some 10) (xq.1)).put (some 11) (xq.2.1)).put (some 12) (xq.2.2.1)).put (some 13) (xq.2.2.2.1)).put (some 14) (xq.2.2.2.2.1)).put (some 15) (xq.2.2.2.2.2.1)).put (some 16) (xq.2.2.2.2.2.2.1)).put (some 17) (xq.2.2.2.2.2.2.2.1)).put (some 18) (xq.2.2.2.2.2.2.2.2.1)).put (some 19) (xq.2.2.2.2.2.2.2.2.2.1)).put (some 20) (xq.2.2.2.2.2.2.2.2.2.2.1)).put (some 21) (xq.2.2.2.2.2.2.2.2.2.2.2.1)).put (some 22) (xq.2.2.2.2.2.2.2.2.2.2.2.2.1)).put (some 23) (xq.2.2.2.2.2.2.2.2.2.2.2.2.2.1)).put (some 24) (xq.2.2.2.2.2.2.2.2.2.2.2.2.2.2.1)).put (some 25) (xq.2.2.2.2.2.2.2.2.2.2.2.2.2.2.2))) ?fr10 (fun xq d w' => (BxA w' w.heap.size 88 #[.pointer (some ⟨R, 0, none⟩)] ∧ BxA w' (w.heap.size + 1) 3 #[.int .i64 (dp : Int)]) ∧ ((d 0 = true → (xq.1) = .pointer (some ⟨R, 0, none⟩)) ∧ (d 2 = true → (xq.2.2.1) = .pointer (some ⟨R, 0, none⟩)) ∧ (d 4 = true → (xq.2.2.2.2.1) = .pointer (some ⟨R, 0, none⟩)) ∧ (d 5 = true → (xq.2.2.2.2.2.1) = .pointer (some ⟨R, 0, none⟩)) ∧ (d 6 = true → (xq.2.2.2.2.2.2.1) = .func (.func 96) #[.pointer (some ⟨R, 0, none⟩)] #[]) ∧ (d 8 = true → (xq.2.2.2.2.2.2.2.2.1) = .pointer (some ⟨R, 0, none⟩)) ∧ (d 10 = true → (xq.2.2.2.2.2.2.2.2.2.2.1) = .pointer (some ⟨R, 0, none⟩)) ∧ (d 12 = true → (xq.2.2.2.2.2.2.2.2.2.2.2.2.1) = .pointer (some ⟨R, 0, none⟩)) ∧ (d 13 = true → (xq.2.2.2.2.2.2.2.2.2.2.2.2.2.1) = .func (.func 116) #[] #[.pointer (some ⟨w.heap.size, 0, none⟩), .pointer (some ⟨w.heap.size + 1, 0, none⟩)])) ∧ ∃ j : Nat, j ≤ 8 ∧ (d 1 = decide (0 < j) ∧ d 3 = decide (1 < j) ∧ d 7 = decide (2 < j) ∧ d 9 = decide (3 < j) ∧ d 11 = decide (4 < j) ∧ d 14 = decide (5 < j) ∧ d 15 = decide (6 < j) ∧ d 16 = decide (7 < j)) ∧ ((j = 0 → BxA w' (w.heap.size + 1 + 1) 32 #[.int .i64 0, .int .i64 0, .slice none 0 0, .int .i64 0, .int .i64 0, .slice none 0 0] ∧ Got B R l w w' (p, e) (fun s => s) ([])) ∧ (j = 1 → ∃ (KI : Int), ((xq.2.1) = .int .i64 KI ∧ In64 KI) ∧ BxA w' (w.heap.size + 1 + 1) 32 #[.int .i64 0, .int .i64 0, .slice none 0 0, .int .i64 0, .int .i64 0, .slice none 0 0] ∧ Got B R l w w' (p, e) (fun s => skU l s) (ei KI)) ∧ (j = 2 → ∃ (KI : Int) (DI : Int), ((xq.2.1) = .int .i64 KI ∧ In64 KI) ∧ ((xq.2.2.2.1) = .int .i64 DI ∧ In64 DI) ∧ BxA w' (w.heap.size + 1 + 1) 32 #[.int .i64 0, .int .i64 0, .slice none 0 0, .int .i64 0, .int .i64 0, .slice none 0 0] ∧ Got B R l w w' (p, e) (fun s => skU l (skU l s)) (ei KI ++ ei DI)) ∧ (j = 3 → ∃ (KI : Int) (DI : Int) (a1 : Option Addr) (n1 m1 : Nat) (ts : List Fi.Str), ((xq.2.1) = .int .i64 KI ∧ In64 KI) ∧ ((xq.2.2.2.1) = .int .i64 DI ∧ In64 DI) ∧ ((xq.2.2.2.2.2.2.2.1) = .slice a1 n1 m1 ∧ w'.ownsRow (w.heap.size + 3) 9 1 (.slice a1 n1 m1) ts.length (ts.flatMap cl_str) ∧ (∀ t ∈ ts, t.length ≤ 1048576)) ∧ BxA w' (w.heap.size + 1 + 1) 32 #[.int .i64 0, .int .i64 0, .slice none 0 0, .int .i64 0, .int .i64 0, .slice none 0 0] ∧ Got B R l w w' (p, e) (fun s => skTxt l (skU l (skU l s))) ((ei KI ++ ei DI) ++ r_txt ts)) ∧ (j = 4 → ∃ (KI : Int) (DI : Int) (a1 : Option Addr) (n1 m1 : Nat) (ts : List Fi.Str) (LO : Int), ((xq.2.1) = .int .i64 KI ∧ In64 KI) ∧ ((xq.2.2.2.1) = .int .i64 DI ∧ In64 DI) ∧ ((xq.2.2.2.2.2.2.2.1) = .slice a1 n1 m1 ∧ w'.ownsRow (w.heap.size + 3) 9 1 (.slice a1 n1 m1) ts.length (ts.flatMap cl_str) ∧ (∀ t ∈ ts, t.length ≤ 1048576)) ∧ ((xq.2.2.2.2.2.2.2.2.2.1) = .int .i64 LO ∧ In64 LO) ∧ BxA w' (w.heap.size + 1 + 1) 32 #[.int .i64 0, .int .i64 0, .slice none 0 0, .int .i64 0, .int .i64 0, .slice none 0 0] ∧ Got B R l w w' (p, e) (fun s => skU l (skTxt l (skU l (skU l s)))) (((ei KI ++ ei DI) ++ r_txt ts) ++ ei LO)) ∧ (j = 5 → ∃ (KI : Int) (DI : Int) (a1 : Option Addr) (n1 m1 : Nat) (ts : List Fi.Str) (LO : Int) (HI : Int), ((xq.2.1) = .int .i64 KI ∧ In64 KI) ∧ ((xq.2.2.2.1) = .int .i64 DI ∧ In64 DI) ∧ ((xq.2.2.2.2.2.2.2.1) = .slice a1 n1 m1 ∧ w'.ownsRow (w.heap.size + 3) 9 1 (.slice a1 n1 m1) ts.length (ts.flatMap cl_str) ∧ (∀ t ∈ ts, t.length ≤ 1048576)) ∧ ((xq.2.2.2.2.2.2.2.2.2.1) = .int .i64 LO ∧ In64 LO) ∧ ((xq.2.2.2.2.2.2.2.2.2.2.2.1) = .int .i64 HI ∧ In64 HI) ∧ BxA w' (w.heap.size + 1 + 1) 32 #[.int .i64 0, .int .i64 0, .slice none 0 0, .int .i64 0, .int .i64 0, .slice none 0 0] ∧ Got B R l w w' (p, e) (fun s => skU l (skU l (skTxt l (skU l (skU l s))))) ((((ei KI ++ ei DI) ++ r_txt ts) ++ ei LO) ++ ei HI)) ∧ (j = 6 → ∃ (KI : Int) (DI : Int) (a1 : Option Addr) (n1 m1 : Nat) (ts : List Fi.Str) (LO : Int) (HI : Int) (a2 : Option Addr) (n2 m2 : Nat) (ks : List Fi.Tr), ((xq.2.1) = .int .i64 KI ∧ In64 KI) ∧ ((xq.2.2.2.1) = .int .i64 DI ∧ In64 DI) ∧ ((xq.2.2.2.2.2.2.2.1) = .slice a1 n1 m1 ∧ w'.ownsRow (w.heap.size + 3) 9 1 (.slice a1 n1 m1) ts.length (ts.flatMap cl_str) ∧ (∀ t ∈ ts, t.length ≤ 1048576)) ∧ ((xq.2.2.2.2.2.2.2.2.2.1) = .int .i64 LO ∧ In64 LO) ∧ ((xq.2.2.2.2.2.2.2.2.2.2.2.1) = .int .i64 HI ∧ In64 HI) ∧ ((xq.2.2.2.2.2.2.2.2.2.2.2.2.2.2.1) = .slice a2 n2 m2 ∧ Win (w.heap.size + 3) w' (fun w => Fi.RdsK 6 w (.slice a2 n2 m2) ks.length (ks.flatMap cl_fil) ∧ ∀ x ∈ ks, x.Ok w) ∧ (∀ x ∈ ks, TrIn x)) ∧ BxA w' (w.heap.size + 1 + 1) 32 #[.int .i64 0, .int .i64 0, .slice none 0 0, .int .i64 0, .int .i64 0, .slice none 0 0] ∧ Got B R l w w' (p, e) (fun s => skL l (skFil l k) (skU l (skU l (skTxt l (skU l (skU l s)))))) (((((ei KI ++ ei DI) ++ r_txt ts) ++ ei LO) ++ ei HI) ++ (Num.uv ks.length ++ ks.flatMap r_fil))) ∧ (j = 7 → ∃ (KI : Int) (DI : Int) (a1 : Option Addr) (n1 m1 : Nat) (ts : List Fi.Str) (LO : Int) (HI : Int) (a2 : Option Addr) (n2 m2 : Nat) (ks : List Fi.Tr), ((xq.2.1) = .int .i64 KI ∧ In64 KI) ∧ ((xq.2.2.2.1) = .int .i64 DI ∧ In64 DI) ∧ ((xq.2.2.2.2.2.2.2.1) = .slice a1 n1 m1 ∧ w'.ownsRow (w.heap.size + 3) 9 1 (.slice a1 n1 m1) ts.length (ts.flatMap cl_str) ∧ (∀ t ∈ ts, t.length ≤ 1048576)) ∧ ((xq.2.2.2.2.2.2.2.2.2.1) = .int .i64 LO ∧ In64 LO) ∧ ((xq.2.2.2.2.2.2.2.2.2.2.2.1) = .int .i64 HI ∧ In64 HI) ∧ ((xq.2.2.2.2.2.2.2.2.2.2.2.2.2.2.1) = .slice a2 n2 m2 ∧ Win (w.heap.size + 3) w' (fun w => Fi.RdsK 6 w (.slice a2 n2 m2) ks.length (ks.flatMap cl_fil) ∧ ∀ x ∈ ks, x.Ok w) ∧ (∀ x ∈ ks, TrIn x)) ∧ (xq.2.2.2.2.2.2.2.2.2.2.2.2.2.2.2) = .agg #[.int .i64 KI, .int .i64 DI, .slice a1 n1 m1, .int .i64 LO, .int .i64 HI, .slice a2 n2 m2] ∧ BxA w' (w.heap.size + 1 + 1) 32 #[.int .i64 0, .int .i64 0, .slice none 0 0, .int .i64 0, .int .i64 0, .slice none 0 0] ∧ Got B R l w w' (p, e) (fun s => skL l (skFil l k) (skU l (skU l (skTxt l (skU l (skU l s)))))) (((((ei KI ++ ei DI) ++ r_txt ts) ++ ei LO) ++ ei HI) ++ (Num.uv ks.length ++ ks.flatMap r_fil))) ∧ (j = 8 → ∃ (KI : Int) (DI : Int) (a1 : Option Addr) (n1 m1 : Nat) (ts : List Fi.Str) (LO : Int) (HI : Int) (a2 : Option Addr) (n2 m2 : Nat) (ks : List Fi.Tr), In64 KI ∧ In64 DI ∧ (w'.ownsRow (w.heap.size + 3) 9 1 (.slice a1 n1 m1) ts.length (ts.flatMap cl_str) ∧ (∀ t ∈ ts, t.length ≤ 1048576)) ∧ In64 LO ∧ In64 HI ∧ (Win (w.heap.size + 3) w' (fun w => Fi.RdsK 6 w (.slice a2 n2 m2) ks.length (ks.flatMap cl_fil) ∧ ∀ x ∈ ks, x.Ok w) ∧ (∀ x ∈ ks, TrIn x)) ∧ BxA w' (w.heap.size + 1 + 1) 32 #[.int .i64 KI, .int .i64 DI, .slice a1 n1 m1, .int .i64 LO, .int .i64 HI, .slice a2 n2 m2] ∧ Got B R l w w' (p, e) (fun s => skL l (skFil l k) (skU l (skU l (skTxt l (skU l (skU l s)))))) (((((ei KI ++ ei DI) ++ r_txt ts) ++ ei LO) ++ ei HI) ++ (Num.uv ks.length ++ ks.flatMap r_fil))))) ?lay10 mixed (by kernel_rfl) ?h010 ?hs10 ?he10
  case lay10 =>
    intro xq
    simp only [Act.put, List.setIfInBounds_toArray, List.set_cons_zero, List.set_cons_succ]
    rfl
  case h010 =>
    refine ⟨(undef, undef, undef, undef, undef, undef, undef, undef, undef, undef, undef, undef, undef, undef, undef, undef), rfl, ?sig10, ⟨(fun h => by cases h), (fun h => by cases h), (fun h => by cases h), (fun h => by cases h), (fun h => by cases h), (fun h => by cases h), (fun h => by cases h), (fun h => by cases h), (fun h => by cases h)⟩, 0, Nat.zero_le _, ⟨rfl, rfl, rfl, rfl, rfl, rfl, rfl, rfl⟩, ?S010, (fun h => by cases h), (fun h => by cases h), (fun h => by cases h), (fun h => by cases h), (fun h => by cases h), (fun h => by cases h), (fun h => by cases h), (fun h => by cases h)⟩
    case sig10 => exact hSig0
    case S010 => exact fun _ => hS00
  case hs10 =>
    refine ⟨?_, ?_, ?_, ?_, ?_, ?_, ?_, ?_, ?_, ?_, ?_, ?_, ?_, ?_, ?_, ?_, ?_, trivial⟩
    · rintro d ⟨x10, x11, x12, x13, x14, x15, x16, x17, x18, x19, x20, x21, x22, x23, x24, x25⟩ w' hI hd hdp K hK
      dsimp only at hI
      obtain ⟨hS, ⟨f0, f2, f4, f5, f6, f8, f10, f12, f13⟩, j, hj, ⟨dd1, dd3, dd7, dd9, dd11, dd14, dd15, dd16⟩, ⟨p0, p1, p2, p3, p4, p5, p6, p7, p8⟩⟩ := hI
      have c0 : w'.cell? ⟨w.heap.size, 0, none⟩ = some (.pointer (some ⟨R, 0, none⟩)) := BxA.cell hS.1 0 _ rfl
      have HF : Hid _ := And.intro hS (And.intro (And.intro f0 (And.intro f2 (And.intro f4 (And.intro f5 (And.intro f6 (And.intro f8 (And.intro f10 (And.intro f12 f13)))))))) (And.intro hj (And.intro (And.intro dd1 (And.intro dd3 (And.intro dd7 (And.intro dd9 (And.intro dd11 (And.intro dd14 (And.intro dd15 dd16))))))) (And.intro p0 (And.intro p1 (And.intro p2 (And.intro p3 (And.intro p4 (And.intro p5 (And.intro p6 (And.intro p7 p8)))))))))))
      clear hS f0 f2 f4 f5 f6 f8 f10 f12 f13 hj dd1 dd3 dd7 dd9 dd11 dd14 dd15 dd16 p0 p1 p2 p3 p4 p5 p6 p7 p8 hdp hd
      refine Opn.mk ?_
      dsimp only
      go_simp
      obtain ⟨hS, ⟨f0, f2, f4, f5, f6, f8, f10, f12, f13⟩, hj, ⟨dd1, dd3, dd7, dd9, dd11, dd14, dd15, dd16⟩, ⟨p0, p1, p2, p3, p4, p5, p6, p7, p8⟩⟩ := HF.out
      exact hK.out (.pointer (some ⟨R, 0, none⟩), x11, x12, x13, x14, x15, x16, x17, x18, x19, x20, x21, x22, x23, x24, x25) _ ⟨hS, ⟨(fun _ => rfl), (fun h => f2 (upd_ne h (by decide))), (fun h => f4 (upd_ne h (by decide))), (fun h => f5 (upd_ne h (by decide))), (fun h => f6 (upd_ne h (by decide))), (fun h => f8 (upd_ne h (by decide))), (fun h => f10 (upd_ne h (by decide))), (fun h => f12 (upd_ne h (by decide))), (fun h => f13 (upd_ne h (by decide)))⟩, j, hj, ⟨((upd_no (by decide)).trans dd1), ((upd_no (by decide)).trans dd3), ((upd_no (by decide)).trans dd7), ((upd_no (by decide)).trans dd9), ((upd_no (by decide)).trans dd11), ((upd_no (by decide)).trans dd14), ((upd_no (by decide)).trans dd15), ((upd_no (by decide)).trans dd16)⟩, ⟨p0, p1, p2, p3, p4, p5, p6, p7, p8⟩⟩
    · rintro d ⟨x10, x11, x12, x13, x14, x15, x16, x17, x18, x19, x20, x21, x22, x23, x24, x25⟩ w' hI hd hdp K hK
      dsimp only at hI
      obtain ⟨hS, ⟨f0, f2, f4, f5, f6, f8, f10, f12, f13⟩, j, hj, ⟨dd1, dd3, dd7, dd9, dd11, dd14, dd15, dd16⟩, ⟨p0, p1, p2, p3, p4, p5, p6, p7, p8⟩⟩ := hI
      obtain rfl := f0 (hdp 0 (by decide +kernel))
      obtain rfl := ph_zero dd1 hd
      have s := p0 rfl
      clear p0 p1 p2 p3 p4 p5 p6 p7 p8 hj
      obtain ⟨z, G⟩ := s
      have kk := gwhole B R l w' _ _ G.ps
      have HG : Hid _ := (And.intro hS (And.intro z G))
      clear hS  z G
      have HF : Hid _ := And.intro (And.intro f0 (And.intro f2 (And.intro f4 (And.intro f5 (And.intro f6 (And.intro f8 (And.intro f10 (And.intro f12 f13)))))))) (And.intro dd1 (And.intro dd3 (And.intro dd7 (And.intro dd9 (And.intro dd11 (And.intro dd14 (And.intro dd15 dd16)))))))
      clear f0 f2 f4 f5 f6 f8 f10 f12 f13 dd1 dd3 dd7 dd9 dd11 dd14 dd15 dd16 hdp hd
      refine Opn.mk ?_
      dsimp only
      go_simp
      go_wp2_with (first | (go_at_call 37; with_reducible refine kk.mono ?_; rintro e5 w5 ⟨KI, rfl, iK, G5⟩))
      obtain ⟨hS, z, G⟩ := HG.out
      obtain ⟨⟨f0, f2, f4, f5, f6, f8, f10, f12, f13⟩, ⟨dd1, dd3, dd7, dd9, dd11, dd14, dd15, dd16⟩⟩ := HF.out
      refine hK.out (.pointer (some ⟨R, 0, none⟩), .int .i64 KI, x12, x13, x14, x15, x16, x17, x18, x19, x20, x21, x22, x23, x24, x25) _ ⟨?sg, ⟨(fun _ => rfl), (fun h => f2 (upd_ne h (by decide))), (fun h => f4 (upd_ne h (by decide))), (fun h => f5 (upd_ne h (by decide))), (fun h => f6 (upd_ne h (by decide))), (fun h => f8 (upd_ne h (by decide))), (fun h => f10 (upd_ne h (by decide))), (fun h => f12 (upd_ne h (by decide))), (fun h => f13 (upd_ne h (by decide)))⟩, 1, by decide, ⟨(by simp [upd]), ((upd_no (by decide)).trans (dd3.trans (by decide))), ((upd_no (by decide)).trans (dd7.trans (by decide))), ((upd_no (by decide)).trans (dd9.trans (by decide))), ((upd_no (by decide)).trans (dd11.trans (by decide))), ((upd_no (by decide)).trans (dd14.trans (by decide))), ((upd_no (by decide)).trans (dd15.trans (by decide))), ((upd_no (by decide)).trans (dd16.trans (by decide)))⟩, ⟨(fun h => absurd h (by decide)), (fun _ => ?new), (fun h => absurd h (by decide)), (fun h => absurd h (by decide)), (fun h => absurd h (by decide)), (fun h => absurd h (by decide)), (fun h => absurd h (by decide)), (fun h => absurd h (by decide)), (fun h => absurd h (by decide))⟩⟩
      case sg => exact ⟨BxA.grow hS.1 G5.g (by omega), BxA.grow hS.2 G5.g (by omega)⟩
      case new =>
        have KR := PS.ktt G.ps G5.g
        have GC := Got.comp hple (fwd_id l) (fwd_u l) G G5
        exact ⟨KI, ⟨rfl, iK⟩, BxA.grow z G5.g (by omega), GC⟩
    · rintro d ⟨x10, x11, x12, x13, x14, x15, x16, x17, x18, x19, x20, x21, x22, x23, x24, x25⟩ w' hI hd hdp K hK
      dsimp only at hI
      obtain ⟨hS, ⟨f0, f2, f4, f5, f6, f8, f10, f12, f13⟩, j, hj, ⟨dd1, dd3, dd7, dd9, dd11, dd14, dd15, dd16⟩, ⟨p0, p1, p2, p3, p4, p5, p6, p7, p8⟩⟩ := hI
      have c0 : w'.cell? ⟨w.heap.size, 0, none⟩ = some (.pointer (some ⟨R, 0, none⟩)) := BxA.cell hS.1 0 _ rfl
      have HF : Hid _ := And.intro hS (And.intro (And.intro f0 (And.intro f2 (And.intro f4 (And.intro f5 (And.intro f6 (And.intro f8 (And.intro f10 (And.intro f12 f13)))))))) (And.intro hj (And.intro (And.intro dd1 (And.intro dd3 (And.intro dd7 (And.intro dd9 (And.intro dd11 (And.intro dd14 (And.intro dd15 dd16))))))) (And.intro p0 (And.intro p1 (And.intro p2 (And.intro p3 (And.intro p4 (And.intro p5 (And.intro p6 (And.intro p7 p8)))))))))))
      clear hS f0 f2 f4 f5 f6 f8 f10 f12 f13 hj dd1 dd3 dd7 dd9 dd11 dd14 dd15 dd16 p0 p1 p2 p3 p4 p5 p6 p7 p8 hdp hd
      refine Opn.mk ?_
      dsimp only
      go_simp
      obtain ⟨hS, ⟨f0, f2, f4, f5, f6, f8, f10, f12, f13⟩, hj, ⟨dd1, dd3, dd7, dd9, dd11, dd14, dd15, dd16⟩, ⟨p0, p1, p2, p3, p4, p5, p6, p7, p8⟩⟩ := HF.out
      exact hK.out (x10, x11, .pointer (some ⟨R, 0, none⟩), x13, x14, x15, x16, x17, x18, x19, x20, x21, x22, x23, x24, x25) _ ⟨hS, ⟨(fun h => f0 (upd_ne h (by decide))), (fun _ => rfl), (fun h => f4 (upd_ne h (by decide))), (fun h => f5 (upd_ne h (by decide))), (fun h => f6 (upd_ne h (by decide))), (fun h => f8 (upd_ne h (by decide))), (fun h => f10 (upd_ne h (by decide))), (fun h => f12 (upd_ne h (by decide))), (fun h => f13 (upd_ne h (by decide)))⟩, j, hj, ⟨((upd_no (by decide)).trans dd1), ((upd_no (by decide)).trans dd3), ((upd_no (by decide)).trans dd7), ((upd_no (by decide)).trans dd9), ((upd_no (by decide)).trans dd11), ((upd_no (by decide)).trans dd14), ((upd_no (by decide)).trans dd15), ((upd_no (by decide)).trans dd16)⟩, ⟨p0, p1, p2, p3, p4, p5, p6, p7, p8⟩⟩
    · rintro d ⟨x10, x11, x12, x13, x14, x15, x16, x17, x18, x19, x20, x21, x22, x23, x24, x25⟩ w' hI hd hdp K hK
      dsimp only at hI
      obtain ⟨hS, ⟨f0, f2, f4, f5, f6, f8, f10, f12, f13⟩, j, hj, ⟨dd1, dd3, dd7, dd9, dd11, dd14, dd15, dd16⟩, ⟨p0, p1, p2, p3, p4, p5, p6, p7, p8⟩⟩ := hI
      obtain rfl := f2 (hdp 2 (by decide +kernel))
      obtain rfl := ph_eq (k := 0) dd3 hd dd1 (hdp 1 (by decide +kernel))
      have s := p1 rfl
      clear p0 p1 p2 p3 p4 p5 p6 p7 p8 hj
      obtain ⟨KI, ⟨e11, iK⟩, z, G⟩ := s
      have kk := gwhole B R l w' _ _ G.ps
      have HG : Hid _ := (And.intro hS (And.intro e11 (And.intro iK (And.intro z G))))
      clear hS e11 iK z G
      have HF : Hid _ := And.intro (And.intro f0 (And.intro f2 (And.intro f4 (And.intro f5 (And.intro f6 (And.intro f8 (And.intro f10 (And.intro f12 f13)))))))) (And.intro dd1 (And.intro dd3 (And.intro dd7 (And.intro dd9 (And.intro dd11 (And.intro dd14 (And.intro dd15 dd16)))))))
      clear f0 f2 f4 f5 f6 f8 f10 f12 f13 dd1 dd3 dd7 dd9 dd11 dd14 dd15 dd16 hdp hd
      refine Opn.mk ?_
      dsimp only
      go_simp
      go_wp2_with (first | (go_at_call 37; with_reducible refine kk.mono ?_; rintro e5 w5 ⟨DI, rfl, iD, G5⟩))
      obtain ⟨hS, e11, iK, z, G⟩ := HG.out
      obtain ⟨⟨f0, f2, f4, f5, f6, f8, f10, f12, f13⟩, ⟨dd1, dd3, dd7, dd9, dd11, dd14, dd15, dd16⟩⟩ := HF.out
      refine hK.out (x10, x11, .pointer (some ⟨R, 0, none⟩), .int .i64 DI, x14, x15, x16, x17, x18, x19, x20, x21, x22, x23, x24, x25) _ ⟨?sg, ⟨(fun h => f0 (upd_ne h (by decide))), (fun _ => rfl), (fun h => f4 (upd_ne h (by decide))), (fun h => f5 (upd_ne h (by decide))), (fun h => f6 (upd_ne h (by decide))), (fun h => f8 (upd_ne h (by decide))), (fun h => f10 (upd_ne h (by decide))), (fun h => f12 (upd_ne h (by decide))), (fun h => f13 (upd_ne h (by decide)))⟩, 2, by decide, ⟨((upd_no (by decide)).trans (dd1.trans (by decide))), (by simp [upd]), ((upd_no (by decide)).trans (dd7.trans (by decide))), ((upd_no (by decide)).trans (dd9.trans (by decide))), ((upd_no (by decide)).trans (dd11.trans (by decide))), ((upd_no (by decide)).trans (dd14.trans (by decide))), ((upd_no (by decide)).trans (dd15.trans (by decide))), ((upd_no (by decide)).trans (dd16.trans (by decide)))⟩, ⟨(fun h => absurd h (by decide)), (fun h => absurd h (by decide)), (fun _ => ?new), (fun h => absurd h (by decide)), (fun h => absurd h (by decide)), (fun h => absurd h (by decide)), (fun h => absurd h (by decide)), (fun h => absurd h (by decide)), (fun h => absurd h (by decide))⟩⟩
      case sg => exact ⟨BxA.grow hS.1 G5.g (by omega), BxA.grow hS.2 G5.g (by omega)⟩
      case new =>
        have KR := PS.ktt G.ps G5.g
        have GC := Got.comp hple (fwd_u l) (fwd_u l) G G5
        exact ⟨KI, DI, ⟨e11, iK⟩, ⟨rfl, iD⟩, BxA.grow z G5.g (by omega), GC⟩
    · rintro d ⟨x10, x11, x12, x13, x14, x15, x16, x17, x18, x19, x20, x21, x22, x23, x24, x25⟩ w' hI hd hdp K hK
      dsimp only at hI
      obtain ⟨hS, ⟨f0, f2, f4, f5, f6, f8, f10, f12, f13⟩, j, hj, ⟨dd1, dd3, dd7, dd9, dd11, dd14, dd15, dd16⟩, ⟨p0, p1, p2, p3, p4, p5, p6, p7, p8⟩⟩ := hI
      have c0 : w'.cell? ⟨w.heap.size, 0, none⟩ = some (.pointer (some ⟨R, 0, none⟩)) := BxA.cell hS.1 0 _ rfl
      have HF : Hid _ := And.intro hS (And.intro (And.intro f0 (And.intro f2 (And.intro f4 (And.intro f5 (And.intro f6 (And.intro f8 (And.intro f10 (And.intro f12 f13)))))))) (And.intro hj (And.intro (And.intro dd1 (And.intro dd3 (And.intro dd7 (And.intro dd9 (And.intro dd11 (And.intro dd14 (And.intro dd15 dd16))))))) (And.intro p0 (And.intro p1 (And.intro p2 (And.intro p3 (And.intro p4 (And.intro p5 (And.intro p6 (And.intro p7 p8)))))))))))
      clear hS f0 f2 f4 f5 f6 f8 f10 f12 f13 hj dd1 dd3 dd7 dd9 dd11 dd14 dd15 dd16 p0 p1 p2 p3 p4 p5 p6 p7 p8 hdp hd
      refine Opn.mk ?_
      dsimp only
      go_simp
      obtain ⟨hS, ⟨f0, f2, f4, f5, f6, f8, f10, f12, f13⟩, hj, ⟨dd1, dd3, dd7, dd9, dd11, dd14, dd15, dd16⟩, ⟨p0, p1, p2, p3, p4, p5, p6, p7, p8⟩⟩ := HF.out
      exact hK.out (x10, x11, x12, x13, .pointer (some ⟨R, 0, none⟩), x15, x16, x17, x18, x19, x20, x21, x22, x23, x24, x25) _ ⟨hS, ⟨(fun h => f0 (upd_ne h (by decide))), (fun h => f2 (upd_ne h (by decide))), (fun _ => rfl), (fun h => f5 (upd_ne h (by decide))), (fun h => f6 (upd_ne h (by decide))), (fun h => f8 (upd_ne h (by decide))), (fun h => f10 (upd_ne h (by decide))), (fun h => f12 (upd_ne h (by decide))), (fun h => f13 (upd_ne h (by decide)))⟩, j, hj, ⟨((upd_no (by decide)).trans dd1), ((upd_no (by decide)).trans dd3), ((upd_no (by decide)).trans dd7), ((upd_no (by decide)).trans dd9), ((upd_no (by decide)).trans dd11), ((upd_no (by decide)).trans dd14), ((upd_no (by decide)).trans dd15), ((upd_no (by decide)).trans dd16)⟩, ⟨p0, p1, p2, p3, p4, p5, p6, p7, p8⟩⟩
    · rintro d ⟨x10, x11, x12, x13, x14, x15, x16, x17, x18, x19, x20, x21, x22, x23, x24, x25⟩ w' hI hd hdp K hK
      dsimp only at hI
      obtain ⟨hS, ⟨f0, f2, f4, f5, f6, f8, f10, f12, f13⟩, j, hj, ⟨dd1, dd3, dd7, dd9, dd11, dd14, dd15, dd16⟩, ⟨p0, p1, p2, p3, p4, p5, p6, p7, p8⟩⟩ := hI
      have c0 : w'.cell? ⟨w.heap.size, 0, none⟩ = some (.pointer (some ⟨R, 0, none⟩)) := BxA.cell hS.1 0 _ rfl
      have HF : Hid _ := And.intro hS (And.intro (And.intro f0 (And.intro f2 (And.intro f4 (And.intro f5 (And.intro f6 (And.intro f8 (And.intro f10 (And.intro f12 f13)))))))) (And.intro hj (And.intro (And.intro dd1 (And.intro dd3 (And.intro dd7 (And.intro dd9 (And.intro dd11 (And.intro dd14 (And.intro dd15 dd16))))))) (And.intro p0 (And.intro p1 (And.intro p2 (And.intro p3 (And.intro p4 (And.intro p5 (And.intro p6 (And.intro p7 p8)))))))))))
      clear hS f0 f2 f4 f5 f6 f8 f10 f12 f13 hj dd1 dd3 dd7 dd9 dd11 dd14 dd15 dd16 p0 p1 p2 p3 p4 p5 p6 p7 p8 hdp hd
      refine Opn.mk ?_
      dsimp only
      go_simp
      obtain ⟨hS, ⟨f0, f2, f4, f5, f6, f8, f10, f12, f13⟩, hj, ⟨dd1, dd3, dd7, dd9, dd11, dd14, dd15, dd16⟩, ⟨p0, p1, p2, p3, p4, p5, p6, p7, p8⟩⟩ := HF.out
      exact hK.out (x10, x11, x12, x13, x14, .pointer (some ⟨R, 0, none⟩), x16, x17, x18, x19, x20, x21, x22, x23, x24, x25) _ ⟨hS, ⟨(fun h => f0 (upd_ne h (by decide))), (fun h => f2 (upd_ne h (by decide))), (fun h => f4 (upd_ne h (by decide))), (fun _ => rfl), (fun h => f6 (upd_ne h (by decide))), (fun h => f8 (upd_ne h (by decide))), (fun h => f10 (upd_ne h (by decide))), (fun h => f12 (upd_ne h (by decide))), (fun h => f13 (upd_ne h (by decide)))⟩, j, hj, ⟨((upd_no (by decide)).trans dd1), ((upd_no (by decide)).trans dd3), ((upd_no (by decide)).trans dd7), ((upd_no (by decide)).trans dd9), ((upd_no (by decide)).trans dd11), ((upd_no (by decide)).trans dd14), ((upd_no (by decide)).trans dd15), ((upd_no (by decide)).trans dd16)⟩, ⟨p0, p1, p2, p3, p4, p5, p6, p7, p8⟩⟩
    · rintro d ⟨x10, x11, x12, x13, x14, x15, x16, x17, x18, x19, x20, x21, x22, x23, x24, x25⟩ w' hI hd hdp K hK
      dsimp only at hI
      obtain ⟨hS, ⟨f0, f2, f4, f5, f6, f8, f10, f12, f13⟩, j, hj, ⟨dd1, dd3, dd7, dd9, dd11, dd14, dd15, dd16⟩, ⟨p0, p1, p2, p3, p4, p5, p6, p7, p8⟩⟩ := hI
      obtain rfl := f5 (hdp 5 (by decide +kernel))
      have HF : Hid _ := And.intro hS (And.intro (And.intro f0 (And.intro f2 (And.intro f4 (And.intro f5 (And.intro f6 (And.intro f8 (And.intro f10 (And.intro f12 f13)))))))) (And.intro hj (And.intro (And.intro dd1 (And.intro dd3 (And.intro dd7 (And.intro dd9 (And.intro dd11 (And.intro dd14 (And.intro dd15 dd16))))))) (And.intro p0 (And.intro p1 (And.intro p2 (And.intro p3 (And.intro p4 (And.intro p5 (And.intro p6 (And.intro p7 p8)))))))))))
      clear hS f0 f2 f4 f5 f6 f8 f10 f12 f13 hj dd1 dd3 dd7 dd9 dd11 dd14 dd15 dd16 p0 p1 p2 p3 p4 p5 p6 p7 p8 hdp hd
      refine Opn.mk ?_
      dsimp only
      go_simp
      obtain ⟨hS, ⟨f0, f2, f4, f5, f6, f8, f10, f12, f13⟩, hj, ⟨dd1, dd3, dd7, dd9, dd11, dd14, dd15, dd16⟩, ⟨p0, p1, p2, p3, p4, p5, p6, p7, p8⟩⟩ := HF.out
      exact hK.out (x10, x11, x12, x13, x14, .pointer (some ⟨R, 0, none⟩), .func (.func 96) #[.pointer (some ⟨R, 0, none⟩)] #[], x17, x18, x19, x20, x21, x22, x23, x24, x25) _ ⟨hS, ⟨(fun h => f0 (upd_ne h (by decide))), (fun h => f2 (upd_ne h (by decide))), (fun h => f4 (upd_ne h (by decide))), (fun _ => rfl), (fun _ => rfl), (fun h => f8 (upd_ne h (by decide))), (fun h => f10 (upd_ne h (by decide))), (fun h => f12 (upd_ne h (by decide))), (fun h => f13 (upd_ne h (by decide)))⟩, j, hj, ⟨((upd_no (by decide)).trans dd1), ((upd_no (by decide)).trans dd3), ((upd_no (by decide)).trans dd7), ((upd_no (by decide)).trans dd9), ((upd_no (by decide)).trans dd11), ((upd_no (by decide)).trans dd14), ((upd_no (by decide)).trans dd15), ((upd_no (by decide)).trans dd16)⟩, ⟨p0, p1, p2, p3, p4, p5, p6, p7, p8⟩⟩
    · rintro d ⟨x10, x11, x12, x13, x14, x15, x16, x17, x18, x19, x20, x21, x22, x23, x24, x25⟩ w' hI hd hdp K hK
      dsimp only at hI
      obtain ⟨hS, ⟨f0, f2, f4, f5, f6, f8, f10, f12, f13⟩, j, hj, ⟨dd1, dd3, dd7, dd9, dd11, dd14, dd15, dd16⟩, ⟨p0, p1, p2, p3, p4, p5, p6, p7, p8⟩⟩ := hI
      obtain rfl := f4 (hdp 4 (by decide +kernel))
      obtain rfl := f6 (hdp 6 (by decide +kernel))
      obtain rfl := ph_eq (k := 1) dd7 hd dd3 (hdp 3 (by decide +kernel))
      have s := p2 rfl
      clear p0 p1 p2 p3 p4 p5 p6 p7 p8 hj
      obtain ⟨KI, DI, ⟨e11, iK⟩, ⟨e13, iD⟩, z, G⟩ := s
      have kk := gtxts B R l w' _ _ hlb G.ps
      have HG : Hid _ := (And.intro hS (And.intro e11 (And.intro iK (And.intro e13 (And.intro iD (And.intro z G))))))
      clear hS e11 iK e13 iD z G
      have HF : Hid _ := And.intro (And.intro f0 (And.intro f2 (And.intro f4 (And.intro f5 (And.intro f6 (And.intro f8 (And.intro f10 (And.intro f12 f13)))))))) (And.intro dd1 (And.intro dd3 (And.intro dd7 (And.intro dd9 (And.intro dd11 (And.intro dd14 (And.intro dd15 dd16)))))))
      clear f0 f2 f4 f5 f6 f8 f10 f12 f13 dd1 dd3 dd7 dd9 dd11 dd14 dd15 dd16 hdp hd
      refine Opn.mk ?_
      dsimp only
      go_simp
      go_wp2_with (first | (go_at_call 95; with_reducible refine kk.mono ?_; rintro e5 w5 ⟨tv, ts, rfl, ow, tl, G5⟩))
      obtain ⟨a1, n1, m1, rfl⟩ := own_sl ow
      obtain ⟨hS, e11, iK, e13, iD, z, G⟩ := HG.out
      obtain ⟨⟨f0, f2, f4, f5, f6, f8, f10, f12, f13⟩, ⟨dd1, dd3, dd7, dd9, dd11, dd14, dd15, dd16⟩⟩ := HF.out
      refine hK.out (x10, x11, x12, x13, .pointer (some ⟨R, 0, none⟩), x15, .func (.func 96) #[.pointer (some ⟨R, 0, none⟩)] #[], .slice a1 n1 m1, x18, x19, x20, x21, x22, x23, x24, x25) _ ⟨?sg, ⟨(fun h => f0 (upd_ne h (by decide))), (fun h => f2 (upd_ne h (by decide))), (fun _ => rfl), (fun h => f5 (upd_ne h (by decide))), (fun _ => rfl), (fun h => f8 (upd_ne h (by decide))), (fun h => f10 (upd_ne h (by decide))), (fun h => f12 (upd_ne h (by decide))), (fun h => f13 (upd_ne h (by decide)))⟩, 3, by decide, ⟨((upd_no (by decide)).trans (dd1.trans (by decide))), ((upd_no (by decide)).trans (dd3.trans (by decide))), (by simp [upd]), ((upd_no (by decide)).trans (dd9.trans (by decide))), ((upd_no (by decide)).trans (dd11.trans (by decide))), ((upd_no (by decide)).trans (dd14.trans (by decide))), ((upd_no (by decide)).trans (dd15.trans (by decide))), ((upd_no (by decide)).trans (dd16.trans (by decide)))⟩, ⟨(fun h => absurd h (by decide)), (fun h => absurd h (by decide)), (fun h => absurd h (by decide)), (fun _ => ?new), (fun h => absurd h (by decide)), (fun h => absurd h (by decide)), (fun h => absurd h (by decide)), (fun h => absurd h (by decide)), (fun h => absurd h (by decide))⟩⟩
      case sg => exact ⟨BxA.grow hS.1 G5.g (by omega), BxA.grow hS.2 G5.g (by omega)⟩
      case new =>
        have KR := PS.ktt G.ps G5.g
        have GC := Got.comp hple ((fwd_u l).comp (fwd_u l)) (fwd_txt l) G G5
        exact ⟨KI, DI, _, _, _, ts, ⟨e11, iK⟩, ⟨e13, iD⟩, ⟨rfl, own_mono ow (BxA.lt z), tl⟩, BxA.grow z G5.g (by omega), GC⟩
    · rintro d ⟨x10, x11, x12, x13, x14, x15, x16, x17, x18, x19, x20, x21, x22, x23, x24, x25⟩ w' hI hd hdp K hK
      dsimp only at hI
      obtain ⟨hS, ⟨f0, f2, f4, f5, f6, f8, f10, f12, f13⟩, j, hj, ⟨dd1, dd3, dd7, dd9, dd11, dd14, dd15, dd16⟩, ⟨p0, p1, p2, p3, p4, p5, p6, p7, p8⟩⟩ := hI
      have c0 : w'.cell? ⟨w.heap.size, 0, none⟩ = some (.pointer (some ⟨R, 0, none⟩)) := BxA.cell hS.1 0 _ rfl
      have HF : Hid _ := And.intro hS (And.intro (And.intro f0 (And.intro f2 (And.intro f4 (And.intro f5 (And.intro f6 (And.intro f8 (And.intro f10 (And.intro f12 f13)))))))) (And.intro hj (And.intro (And.intro dd1 (And.intro dd3 (And.intro dd7 (And.intro dd9 (And.intro dd11 (And.intro dd14 (And.intro dd15 dd16))))))) (And.intro p0 (And.intro p1 (And.intro p2 (And.intro p3 (And.intro p4 (And.intro p5 (And.intro p6 (And.intro p7 p8)))))))))))
      clear hS f0 f2 f4 f5 f6 f8 f10 f12 f13 hj dd1 dd3 dd7 dd9 dd11 dd14 dd15 dd16 p0 p1 p2 p3 p4 p5 p6 p7 p8 hdp hd
      refine Opn.mk ?_
      dsimp only
      go_simp
      obtain ⟨hS, ⟨f0, f2, f4, f5, f6, f8, f10, f12, f13⟩, hj, ⟨dd1, dd3, dd7, dd9, dd11, dd14, dd15, dd16⟩, ⟨p0, p1, p2, p3, p4, p5, p6, p7, p8⟩⟩ := HF.out
      exact hK.out (x10, x11, x12, x13, x14, x15, x16, x17, .pointer (some ⟨R, 0, none⟩), x19, x20, x21, x22, x23, x24, x25) _ ⟨hS, ⟨(fun h => f0 (upd_ne h (by decide))), (fun h => f2 (upd_ne h (by decide))), (fun h => f4 (upd_ne h (by decide))), (fun h => f5 (upd_ne h (by decide))), (fun h => f6 (upd_ne h (by decide))), (fun _ => rfl), (fun h => f10 (upd_ne h (by decide))), (fun h => f12 (upd_ne h (by decide))), (fun h => f13 (upd_ne h (by decide)))⟩, j, hj, ⟨((upd_no (by decide)).trans dd1), ((upd_no (by decide)).trans dd3), ((upd_no (by decide)).trans dd7), ((upd_no (by decide)).trans dd9), ((upd_no (by decide)).trans dd11), ((upd_no (by decide)).trans dd14), ((upd_no (by decide)).trans dd15), ((upd_no (by decide)).trans dd16)⟩, ⟨p0, p1, p2, p3, p4, p5, p6, p7, p8⟩⟩
    · rintro d ⟨x10, x11, x12, x13, x14, x15, x16, x17, x18, x19, x20, x21, x22, x23, x24, x25⟩ w' hI hd hdp K hK
      dsimp only at hI
      obtain ⟨hS, ⟨f0, f2, f4, f5, f6, f8, f10, f12, f13⟩, j, hj, ⟨dd1, dd3, dd7, dd9, dd11, dd14, dd15, dd16⟩, ⟨p0, p1, p2, p3, p4, p5, p6, p7, p8⟩⟩ := hI
      obtain rfl := f8 (hdp 8 (by decide +kernel))
      obtain rfl := ph_eq (k := 2) dd9 hd dd7 (hdp 7 (by decide +kernel))
      have s := p3 rfl
      clear p0 p1 p2 p3 p4 p5 p6 p7 p8 hj
      obtain ⟨KI, DI, a1, n1, m1, ts, ⟨e11, iK⟩, ⟨e13, iD⟩, ⟨e17, ow, tl⟩, z, G⟩ := s
      have kk := gint B R l w' _ _ G.ps
      have HG : Hid _ := (And.intro hS (And.intro e11 (And.intro iK (And.intro e13 (And.intro iD (And.intro e17 (And.intro ow (And.intro tl (And.intro z G)))))))))
      clear hS e11 iK e13 iD e17 ow tl z G
      have HF : Hid _ := And.intro (And.intro f0 (And.intro f2 (And.intro f4 (And.intro f5 (And.intro f6 (And.intro f8 (And.intro f10 (And.intro f12 f13)))))))) (And.intro dd1 (And.intro dd3 (And.intro dd7 (And.intro dd9 (And.intro dd11 (And.intro dd14 (And.intro dd15 dd16)))))))
      clear f0 f2 f4 f5 f6 f8 f10 f12 f13 dd1 dd3 dd7 dd9 dd11 dd14 dd15 dd16 hdp hd
      refine Opn.mk ?_
      dsimp only
      go_simp
      go_wp2_with (first | (go_at_call 93; with_reducible refine kk.mono ?_; rintro e5 w5 ⟨LO, rfl, iL, G5⟩))
      obtain ⟨hS, e11, iK, e13, iD, e17, ow, tl, z, G⟩ := HG.out
      obtain ⟨⟨f0, f2, f4, f5, f6, f8, f10, f12, f13⟩, ⟨dd1, dd3, dd7, dd9, dd11, dd14, dd15, dd16⟩⟩ := HF.out
      refine hK.out (x10, x11, x12, x13, x14, x15, x16, x17, .pointer (some ⟨R, 0, none⟩), .int .i64 LO, x20, x21, x22, x23, x24, x25) _ ⟨?sg, ⟨(fun h => f0 (upd_ne h (by decide))), (fun h => f2 (upd_ne h (by decide))), (fun h => f4 (upd_ne h (by decide))), (fun h => f5 (upd_ne h (by decide))), (fun h => f6 (upd_ne h (by decide))), (fun _ => rfl), (fun h => f10 (upd_ne h (by decide))), (fun h => f12 (upd_ne h (by decide))), (fun h => f13 (upd_ne h (by decide)))⟩, 4, by decide, ⟨((upd_no (by decide)).trans (dd1.trans (by decide))), ((upd_no (by decide)).trans (dd3.trans (by decide))), ((upd_no (by decide)).trans (dd7.trans (by decide))), (by simp [upd]), ((upd_no (by decide)).trans (dd11.trans (by decide))), ((upd_no (by decide)).trans (dd14.trans (by decide))), ((upd_no (by decide)).trans (dd15.trans (by decide))), ((upd_no (by decide)).trans (dd16.trans (by decide)))⟩, ⟨(fun h => absurd h (by decide)), (fun h => absurd h (by decide)), (fun h => absurd h (by decide)), (fun h => absurd h (by decide)), (fun _ => ?new), (fun h => absurd h (by decide)), (fun h => absurd h (by decide)), (fun h => absurd h (by decide)), (fun h => absurd h (by decide))⟩⟩
      case sg => exact ⟨BxA.grow hS.1 G5.g (by omega), BxA.grow hS.2 G5.g (by omega)⟩
      case new =>
        have KR := PS.ktt G.ps G5.g
        have GC := Got.comp hple (((fwd_u l).comp (fwd_u l)).comp (fwd_txt l)) (fwd_u l) G G5
        exact ⟨KI, DI, a1, n1, m1, ts, LO, ⟨e11, iK⟩, ⟨e13, iD⟩, ⟨e17, KR.own ow (by decide), tl⟩, ⟨rfl, iL⟩, BxA.grow z G5.g (by omega), GC⟩
    · rintro d ⟨x10, x11, x12, x13, x14, x15, x16, x17, x18, x19, x20, x21, x22, x23, x24, x25⟩ w' hI hd hdp K hK
      dsimp only at hI
      obtain ⟨hS, ⟨f0, f2, f4, f5, f6, f8, f10, f12, f13⟩, j, hj, ⟨dd1, dd3, dd7, dd9, dd11, dd14, dd15, dd16⟩, ⟨p0, p1, p2, p3, p4, p5, p6, p7, p8⟩⟩ := hI
      have c0 : w'.cell? ⟨w.heap.size, 0, none⟩ = some (.pointer (some ⟨R, 0, none⟩)) := BxA.cell hS.1 0 _ rfl
      have HF : Hid _ := And.intro hS (And.intro (And.intro f0 (And.intro f2 (And.intro f4 (And.intro f5 (And.intro f6 (And.intro f8 (And.intro f10 (And.intro f12 f13)))))))) (And.intro hj (And.intro (And.intro dd1 (And.intro dd3 (And.intro dd7 (And.intro dd9 (And.intro dd11 (And.intro dd14 (And.intro dd15 dd16))))))) (And.intro p0 (And.intro p1 (And.intro p2 (And.intro p3 (And.intro p4 (And.intro p5 (And.intro p6 (And.intro p7 p8)))))))))))
      clear hS f0 f2 f4 f5 f6 f8 f10 f12 f13 hj dd1 dd3 dd7 dd9 dd11 dd14 dd15 dd16 p0 p1 p2 p3 p4 p5 p6 p7 p8 hdp hd
      refine Opn.mk ?_
      dsimp only
      go_simp
      obtain ⟨hS, ⟨f0, f2, f4, f5, f6, f8, f10, f12, f13⟩, hj, ⟨dd1, dd3, dd7, dd9, dd11, dd14, dd15, dd16⟩, ⟨p0, p1, p2, p3, p4, p5, p6, p7, p8⟩⟩ := HF.out
      exact hK.out (x10, x11, x12, x13, x14, x15, x16, x17, x18, x19, .pointer (some ⟨R, 0, none⟩), x21, x22, x23, x24, x25) _ ⟨hS, ⟨(fun h => f0 (upd_ne h (by decide))), (fun h => f2 (upd_ne h (by decide))), (fun h => f4 (upd_ne h (by decide))), (fun h => f5 (upd_ne h (by decide))), (fun h => f6 (upd_ne h (by decide))), (fun h => f8 (upd_ne h (by decide))), (fun _ => rfl), (fun h => f12 (upd_ne h (by decide))), (fun h => f13 (upd_ne h (by decide)))⟩, j, hj, ⟨((upd_no (by decide)).trans dd1), ((upd_no (by decide)).trans dd3), ((upd_no (by decide)).trans dd7), ((upd_no (by decide)).trans dd9), ((upd_no (by decide)).trans dd11), ((upd_no (by decide)).trans dd14), ((upd_no (by decide)).trans dd15), ((upd_no (by decide)).trans dd16)⟩, ⟨p0, p1, p2, p3, p4, p5, p6, p7, p8⟩⟩
    · rintro d ⟨x10, x11, x12, x13, x14, x15, x16, x17, x18, x19, x20, x21, x22, x23, x24, x25⟩ w' hI hd hdp K hK
      dsimp only at hI
      obtain ⟨hS, ⟨f0, f2, f4, f5, f6, f8, f10, f12, f13⟩, j, hj, ⟨dd1, dd3, dd7, dd9, dd11, dd14, dd15, dd16⟩, ⟨p0, p1, p2, p3, p4, p5, p6, p7, p8⟩⟩ := hI
      obtain rfl := f10 (hdp 10 (by decide +kernel))
      obtain rfl := ph_eq (k := 3) dd11 hd dd9 (hdp 9 (by decide +kernel))
      have s := p4 rfl
      clear p0 p1 p2 p3 p4 p5 p6 p7 p8 hj
      obtain ⟨KI, DI, a1, n1, m1, ts, LO, ⟨e11, iK⟩, ⟨e13, iD⟩, ⟨e17, ow, tl⟩, ⟨e19, iL⟩, z, G⟩ := s
      have kk := gint B R l w' _ _ G.ps
      have HG : Hid _ := (And.intro hS (And.intro e11 (And.intro iK (And.intro e13 (And.intro iD (And.intro e17 (And.intro ow (And.intro tl (And.intro e19 (And.intro iL (And.intro z G)))))))))))
      clear hS e11 iK e13 iD e17 ow tl e19 iL z G
      have HF : Hid _ := And.intro (And.intro f0 (And.intro f2 (And.intro f4 (And.intro f5 (And.intro f6 (And.intro f8 (And.intro f10 (And.intro f12 f13)))))))) (And.intro dd1 (And.intro dd3 (And.intro dd7 (And.intro dd9 (And.intro dd11 (And.intro dd14 (And.intro dd15 dd16)))))))
      clear f0 f2 f4 f5 f6 f8 f10 f12 f13 dd1 dd3 dd7 dd9 dd11 dd14 dd15 dd16 hdp hd
      refine Opn.mk ?_
      dsimp only
      go_simp
      go_wp2_with (first | (go_at_call 93; with_reducible refine kk.mono ?_; rintro e5 w5 ⟨HI, rfl, iH, G5⟩))
      obtain ⟨hS, e11, iK, e13, iD, e17, ow, tl, e19, iL, z, G⟩ := HG.out
      obtain ⟨⟨f0, f2, f4, f5, f6, f8, f10, f12, f13⟩, ⟨dd1, dd3, dd7, dd9, dd11, dd14, dd15, dd16⟩⟩ := HF.out
      refine hK.out (x10, x11, x12, x13, x14, x15, x16, x17, x18, x19, .pointer (some ⟨R, 0, none⟩), .int .i64 HI, x22, x23, x24, x25) _ ⟨?sg, ⟨(fun h => f0 (upd_ne h (by decide))), (fun h => f2 (upd_ne h (by decide))), (fun h => f4 (upd_ne h (by decide))), (fun h => f5 (upd_ne h (by decide))), (fun h => f6 (upd_ne h (by decide))), (fun h => f8 (upd_ne h (by decide))), (fun _ => rfl), (fun h => f12 (upd_ne h (by decide))), (fun h => f13 (upd_ne h (by decide)))⟩, 5, by decide, ⟨((upd_no (by decide)).trans (dd1.trans (by decide))), ((upd_no (by decide)).trans (dd3.trans (by decide))), ((upd_no (by decide)).trans (dd7.trans (by decide))), ((upd_no (by decide)).trans (dd9.trans (by decide))), (by simp [upd]), ((upd_no (by decide)).trans (dd14.trans (by decide))), ((upd_no (by decide)).trans (dd15.trans (by decide))), ((upd_no (by decide)).trans (dd16.trans (by decide)))⟩, ⟨(fun h => absurd h (by decide)), (fun h => absurd h (by decide)), (fun h => absurd h (by decide)), (fun h => absurd h (by decide)), (fun h => absurd h (by decide)), (fun _ => ?new), (fun h => absurd h (by decide)), (fun h => absurd h (by decide)), (fun h => absurd h (by decide))⟩⟩
      case sg => exact ⟨BxA.grow hS.1 G5.g (by omega), BxA.grow hS.2 G5.g (by omega)⟩
      case new =>
        have KR := PS.ktt G.ps G5.g
        have GC := Got.comp hple ((((fwd_u l).comp (fwd_u l)).comp (fwd_txt l)).comp (fwd_u l)) (fwd_u l) G G5
        exact ⟨KI, DI, a1, n1, m1, ts, LO, HI, ⟨e11, iK⟩, ⟨e13, iD⟩, ⟨e17, KR.own ow (by decide), tl⟩, ⟨e19, iL⟩, ⟨rfl, iH⟩, BxA.grow z G5.g (by omega), GC⟩
    · rintro d ⟨x10, x11, x12, x13, x14, x15, x16, x17, x18, x19, x20, x21, x22, x23, x24, x25⟩ w' hI hd hdp K hK
      dsimp only at hI
      obtain ⟨hS, ⟨f0, f2, f4, f5, f6, f8, f10, f12, f13⟩, j, hj, ⟨dd1, dd3, dd7, dd9, dd11, dd14, dd15, dd16⟩, ⟨p0, p1, p2, p3, p4, p5, p6, p7, p8⟩⟩ := hI
      have c0 : w'.cell? ⟨w.heap.size, 0, none⟩ = some (.pointer (some ⟨R, 0, none⟩)) := BxA.cell hS.1 0 _ rfl
      have HF : Hid _ := And.intro hS (And.intro (And.intro f0 (And.intro f2 (And.intro f4 (And.intro f5 (And.intro f6 (And.intro f8 (And.intro f10 (And.intro f12 f13)))))))) (And.intro hj (And.intro (And.intro dd1 (And.intro dd3 (And.intro dd7 (And.intro dd9 (And.intro dd11 (And.intro dd14 (And.intro dd15 dd16))))))) (And.intro p0 (And.intro p1 (And.intro p2 (And.intro p3 (And.intro p4 (And.intro p5 (And.intro p6 (And.intro p7 p8)))))))))))
      clear hS f0 f2 f4 f5 f6 f8 f10 f12 f13 hj dd1 dd3 dd7 dd9 dd11 dd14 dd15 dd16 p0 p1 p2 p3 p4 p5 p6 p7 p8 hdp hd
      refine Opn.mk ?_
      dsimp only
      go_simp
      obtain ⟨hS, ⟨f0, f2, f4, f5, f6, f8, f10, f12, f13⟩, hj, ⟨dd1, dd3, dd7, dd9, dd11, dd14, dd15, dd16⟩, ⟨p0, p1, p2, p3, p4, p5, p6, p7, p8⟩⟩ := HF.out
      exact hK.out (x10, x11, x12, x13, x14, x15, x16, x17, x18, x19, x20, x21, .pointer (some ⟨R, 0, none⟩), x23, x24, x25) _ ⟨hS, ⟨(fun h => f0 (upd_ne h (by decide))), (fun h => f2 (upd_ne h (by decide))), (fun h => f4 (upd_ne h (by decide))), (fun h => f5 (upd_ne h (by decide))), (fun h => f6 (upd_ne h (by decide))), (fun h => f8 (upd_ne h (by decide))), (fun h => f10 (upd_ne h (by decide))), (fun _ => rfl), (fun h => f13 (upd_ne h (by decide)))⟩, j, hj, ⟨((upd_no (by decide)).trans dd1), ((upd_no (by decide)).trans dd3), ((upd_no (by decide)).trans dd7), ((upd_no (by decide)).trans dd9), ((upd_no (by decide)).trans dd11), ((upd_no (by decide)).trans dd14), ((upd_no (by decide)).trans dd15), ((upd_no (by decide)).trans dd16)⟩, ⟨p0, p1, p2, p3, p4, p5, p6, p7, p8⟩⟩
    · rintro d ⟨x10, x11, x12, x13, x14, x15, x16, x17, x18, x19, x20, x21, x22, x23, x24, x25⟩ w' hI hd hdp K hK
      dsimp only at hI
      obtain ⟨hS, ⟨f0, f2, f4, f5, f6, f8, f10, f12, f13⟩, j, hj, ⟨dd1, dd3, dd7, dd9, dd11, dd14, dd15, dd16⟩, ⟨p0, p1, p2, p3, p4, p5, p6, p7, p8⟩⟩ := hI
      have HF : Hid _ := And.intro hS (And.intro (And.intro f0 (And.intro f2 (And.intro f4 (And.intro f5 (And.intro f6 (And.intro f8 (And.intro f10 (And.intro f12 f13)))))))) (And.intro hj (And.intro (And.intro dd1 (And.intro dd3 (And.intro dd7 (And.intro dd9 (And.intro dd11 (And.intro dd14 (And.intro dd15 dd16))))))) (And.intro p0 (And.intro p1 (And.intro p2 (And.intro p3 (And.intro p4 (And.intro p5 (And.intro p6 (And.intro p7 p8)))))))))))
      clear hS f0 f2 f4 f5 f6 f8 f10 f12 f13 hj dd1 dd3 dd7 dd9 dd11 dd14 dd15 dd16 p0 p1 p2 p3 p4 p5 p6 p7 p8 hdp hd
      refine Opn.mk ?_
      dsimp only
      go_simp
      obtain ⟨hS, ⟨f0, f2, f4, f5, f6, f8, f10, f12, f13⟩, hj, ⟨dd1, dd3, dd7, dd9, dd11, dd14, dd15, dd16⟩, ⟨p0, p1, p2, p3, p4, p5, p6, p7, p8⟩⟩ := HF.out
      exact hK.out (x10, x11, x12, x13, x14, x15, x16, x17, x18, x19, x20, x21, x22, .func (.func 116) #[] #[.pointer (some ⟨w.heap.size, 0, none⟩), .pointer (some ⟨w.heap.size + 1, 0, none⟩)], x24, x25) _ ⟨hS, ⟨(fun h => f0 (upd_ne h (by decide))), (fun h => f2 (upd_ne h (by decide))), (fun h => f4 (upd_ne h (by decide))), (fun h => f5 (upd_ne h (by decide))), (fun h => f6 (upd_ne h (by decide))), (fun h => f8 (upd_ne h (by decide))), (fun h => f10 (upd_ne h (by decide))), (fun h => f12 (upd_ne h (by decide))), (fun _ => rfl)⟩, j, hj, ⟨((upd_no (by decide)).trans dd1), ((upd_no (by decide)).trans dd3), ((upd_no (by decide)).trans dd7), ((upd_no (by decide)).trans dd9), ((upd_no (by decide)).trans dd11), ((upd_no (by decide)).trans dd14), ((upd_no (by decide)).trans dd15), ((upd_no (by decide)).trans dd16)⟩, ⟨p0, p1, p2, p3, p4, p5, p6, p7, p8⟩⟩
    · rintro d ⟨x10, x11, x12, x13, x14, x15, x16, x17, x18, x19, x20, x21, x22, x23, x24, x25⟩ w' hI hd hdp K hK
      dsimp only at hI
      obtain ⟨hS, ⟨f0, f2, f4, f5, f6, f8, f10, f12, f13⟩, j, hj, ⟨dd1, dd3, dd7, dd9, dd11, dd14, dd15, dd16⟩, ⟨p0, p1, p2, p3, p4, p5, p6, p7, p8⟩⟩ := hI
      obtain rfl := f12 (hdp 12 (by decide +kernel))
      obtain rfl := f13 (hdp 13 (by decide +kernel))
      obtain rfl := ph_eq (k := 4) dd14 hd dd11 (hdp 11 (by decide +kernel))
      have s := p5 rfl
      clear p0 p1 p2 p3 p4 p5 p6 p7 p8 hj
      obtain ⟨KI, DI, a1, n1, m1, ts, LO, HI, ⟨e11, iK⟩, ⟨e13, iD⟩, ⟨e17, ow, tl⟩, ⟨e19, iL⟩, ⟨e21, iH⟩, z, G⟩ := s
      have kk := rl_fil B R l w' _ _ (skFil l k) r_fil w.heap.size (w.heap.size + 1) hlb (fwd_fil l k) G.ps (fun w1 p1 e1 hk1 h1 => gfil_clo B R l k dp hd2 hI w1 w.heap.size (w.heap.size + 1) p1 e1 (BxA.ktt' hS.1 hk1 (by decide)) (BxA.ktt' hS.2 hk1 (by decide)) h1)
      have HG : Hid _ := (And.intro hS (And.intro e11 (And.intro iK (And.intro e13 (And.intro iD (And.intro e17 (And.intro ow (And.intro tl (And.intro e19 (And.intro iL (And.intro e21 (And.intro iH (And.intro z G)))))))))))))
      clear hS e11 iK e13 iD e17 ow tl e19 iL e21 iH z G
      have HF : Hid _ := And.intro (And.intro f0 (And.intro f2 (And.intro f4 (And.intro f5 (And.intro f6 (And.intro f8 (And.intro f10 (And.intro f12 f13)))))))) (And.intro dd1 (And.intro dd3 (And.intro dd7 (And.intro dd9 (And.intro dd11 (And.intro dd14 (And.intro dd15 dd16)))))))
      clear f0 f2 f4 f5 f6 f8 f10 f12 f13 dd1 dd3 dd7 dd9 dd11 dd14 dd15 dd16 hdp hd
      refine Opn.mk ?_
      dsimp only
      go_simp
      go_wp2_with (first | (go_at_call 115; with_reducible refine kk.mono ?_; rintro e5 w5 ⟨kv, ks, rfl, ⟨a2, n2, m2, rfl⟩, wn, tr, G5⟩))
      obtain ⟨hS, e11, iK, e13, iD, e17, ow, tl, e19, iL, e21, iH, z, G⟩ := HG.out
      obtain ⟨⟨f0, f2, f4, f5, f6, f8, f10, f12, f13⟩, ⟨dd1, dd3, dd7, dd9, dd11, dd14, dd15, dd16⟩⟩ := HF.out
      refine hK.out (x10, x11, x12, x13, x14, x15, x16, x17, x18, x19, x20, x21, .pointer (some ⟨R, 0, none⟩), .func (.func 116) #[] #[.pointer (some ⟨w.heap.size, 0, none⟩), .pointer (some ⟨w.heap.size + 1, 0, none⟩)], .slice a2 n2 m2, x25) _ ⟨?sg, ⟨(fun h => f0 (upd_ne h (by decide))), (fun h => f2 (upd_ne h (by decide))), (fun h => f4 (upd_ne h (by decide))), (fun h => f5 (upd_ne h (by decide))), (fun h => f6 (upd_ne h (by decide))), (fun h => f8 (upd_ne h (by decide))), (fun h => f10 (upd_ne h (by decide))), (fun _ => rfl), (fun _ => rfl)⟩, 6, by decide, ⟨((upd_no (by decide)).trans (dd1.trans (by decide))), ((upd_no (by decide)).trans (dd3.trans (by decide))), ((upd_no (by decide)).trans (dd7.trans (by decide))), ((upd_no (by decide)).trans (dd9.trans (by decide))), ((upd_no (by decide)).trans (dd11.trans (by decide))), (by simp [upd]), ((upd_no (by decide)).trans (dd15.trans (by decide))), ((upd_no (by decide)).trans (dd16.trans (by decide)))⟩, ⟨(fun h => absurd h (by decide)), (fun h => absurd h (by decide)), (fun h => absurd h (by decide)), (fun h => absurd h (by decide)), (fun h => absurd h (by decide)), (fun h => absurd h (by decide)), (fun _ => ?new), (fun h => absurd h (by decide)), (fun h => absurd h (by decide))⟩⟩
      case sg => exact ⟨BxA.grow hS.1 G5.g (by omega), BxA.grow hS.2 G5.g (by omega)⟩
      case new =>
        have KR := PS.ktt G.ps G5.g
        have GC := Got.comp hple (((((fwd_u l).comp (fwd_u l)).comp (fwd_txt l)).comp (fwd_u l)).comp (fwd_u l)) (fwd_l (fwd_fil l k)) G G5
        exact ⟨KI, DI, a1, n1, m1, ts, LO, HI, _, _, _, ks, ⟨e11, iK⟩, ⟨e13, iD⟩, ⟨e17, KR.own ow (by decide), tl⟩, ⟨e19, iL⟩, ⟨e21, iH⟩, ⟨rfl, wn.mono (BxA.lt z), tr⟩, BxA.grow z G5.g (by omega), GC⟩
    · rintro d ⟨x10, x11, x12, x13, x14, x15, x16, x17, x18, x19, x20, x21, x22, x23, x24, x25⟩ w' hI hd hdp K hK
      dsimp only at hI
      obtain ⟨hS, ⟨f0, f2, f4, f5, f6, f8, f10, f12, f13⟩, j, hj, ⟨dd1, dd3, dd7, dd9, dd11, dd14, dd15, dd16⟩, ⟨p0, p1, p2, p3, p4, p5, p6, p7, p8⟩⟩ := hI
      obtain rfl := ph_eq (k := 5) dd15 hd dd14 (hdp 14 (by decide +kernel))
      have s := p6 rfl
      clear p0 p1 p2 p3 p4 p5 p6 p7 p8 hj
      obtain ⟨KI, DI, a1, n1, m1, ts, LO, HI, a2, n2, m2, ks, ⟨rfl, iK⟩, ⟨rfl, iD⟩, ⟨rfl, ow, tl⟩, ⟨rfl, iL⟩, ⟨rfl, iH⟩, ⟨rfl, wn, tr⟩, z, G⟩ := s
      have HG : Hid _ := (And.intro hS (And.intro iK (And.intro iD (And.intro ow (And.intro tl (And.intro iL (And.intro iH (And.intro wn (And.intro tr (And.intro z G))))))))))
      clear hS iK iD ow tl iL iH wn tr z G
      have HF : Hid _ := And.intro (And.intro f0 (And.intro f2 (And.intro f4 (And.intro f5 (And.intro f6 (And.intro f8 (And.intro f10 (And.intro f12 f13)))))))) (And.intro dd1 (And.intro dd3 (And.intro dd7 (And.intro dd9 (And.intro dd11 (And.intro dd14 (And.intro dd15 dd16)))))))
      clear f0 f2 f4 f5 f6 f8 f10 f12 f13 dd1 dd3 dd7 dd9 dd11 dd14 dd15 dd16 hdp hd
      refine Opn.mk ?_
      dsimp only
      go_simp
      obtain ⟨hS, iK, iD, ow, tl, iL, iH, wn, tr, z, G⟩ := HG.out
      obtain ⟨⟨f0, f2, f4, f5, f6, f8, f10, f12, f13⟩, ⟨dd1, dd3, dd7, dd9, dd11, dd14, dd15, dd16⟩⟩ := HF.out
      refine hK.out (x10, .int .i64 KI, x12, .int .i64 DI, x14, x15, x16, .slice a1 n1 m1, x18, .int .i64 LO, x20, .int .i64 HI, x22, x23, .slice a2 n2 m2, .agg #[.int .i64 KI, .int .i64 DI, .slice a1 n1 m1, .int .i64 LO, .int .i64 HI, .slice a2 n2 m2]) _ ⟨?sg, ⟨(fun h => f0 (upd_ne h (by decide))), (fun h => f2 (upd_ne h (by decide))), (fun h => f4 (upd_ne h (by decide))), (fun h => f5 (upd_ne h (by decide))), (fun h => f6 (upd_ne h (by decide))), (fun h => f8 (upd_ne h (by decide))), (fun h => f10 (upd_ne h (by decide))), (fun h => f12 (upd_ne h (by decide))), (fun h => f13 (upd_ne h (by decide)))⟩, 7, by decide, ⟨((upd_no (by decide)).trans (dd1.trans (by decide))), ((upd_no (by decide)).trans (dd3.trans (by decide))), ((upd_no (by decide)).trans (dd7.trans (by decide))), ((upd_no (by decide)).trans (dd9.trans (by decide))), ((upd_no (by decide)).trans (dd11.trans (by decide))), ((upd_no (by decide)).trans (dd14.trans (by decide))), (by simp [upd]), ((upd_no (by decide)).trans (dd16.trans (by decide)))⟩, ⟨(fun h => absurd h (by decide)), (fun h => absurd h (by decide)), (fun h => absurd h (by decide)), (fun h => absurd h (by decide)), (fun h => absurd h (by decide)), (fun h => absurd h (by decide)), (fun h => absurd h (by decide)), (fun _ => ?new), (fun h => absurd h (by decide))⟩⟩
      case sg => exact hS
      case new =>
        exact ⟨KI, DI, a1, n1, m1, ts, LO, HI, a2, n2, m2, ks, ⟨rfl, iK⟩, ⟨rfl, iD⟩, ⟨rfl, ow, tl⟩, ⟨rfl, iL⟩, ⟨rfl, iH⟩, ⟨rfl, wn, tr⟩, rfl, z, G⟩
    · rintro d ⟨x10, x11, x12, x13, x14, x15, x16, x17, x18, x19, x20, x21, x22, x23, x24, x25⟩ w' hI hd hdp K hK
      dsimp only at hI
      obtain ⟨hS, ⟨f0, f2, f4, f5, f6, f8, f10, f12, f13⟩, j, hj, ⟨dd1, dd3, dd7, dd9, dd11, dd14, dd15, dd16⟩, ⟨p0, p1, p2, p3, p4, p5, p6, p7, p8⟩⟩ := hI
      obtain rfl := ph_eq (k := 6) dd16 hd dd15 (hdp 15 (by decide +kernel))
      have s := p7 rfl
      clear p0 p1 p2 p3 p4 p5 p6 p7 p8 hj
      obtain ⟨KI, DI, a1, n1, m1, ts, LO, HI, a2, n2, m2, ks, ⟨rfl, iK⟩, ⟨rfl, iD⟩, ⟨rfl, ow, tl⟩, ⟨rfl, iL⟩, ⟨rfl, iH⟩, ⟨rfl, wn, tr⟩, rfl, z, G⟩ := s
      have z0 : w'.cell? ⟨w.heap.size + 1 + 1, 0, none⟩ = some (.int .i64 0) := BxA.cell z 0 _ rfl
      have q0 : w'.frozen? ⟨w.heap.size + 1 + 1, 0, none⟩ = false := BxA.free z 0
      have z1 : w'.cell? ⟨w.heap.size + 1 + 1, 1, none⟩ = some (.int .i64 0) := BxA.cell z 1 _ rfl
      have q1 : w'.frozen? ⟨w.heap.size + 1 + 1, 1, none⟩ = false := BxA.free z 1
      have z2 : w'.cell? ⟨w.heap.size + 1 + 1, 2, none⟩ = some (.slice none 0 0) := BxA.cell z 2 _ rfl
      have q2 : w'.frozen? ⟨w.heap.size + 1 + 1, 2, none⟩ = false := BxA.free z 2
      have z3 : w'.cell? ⟨w.heap.size + 1 + 1, 3, none⟩ = some (.int .i64 0) := BxA.cell z 3 _ rfl
      have q3 : w'.frozen? ⟨w.heap.size + 1 + 1, 3, none⟩ = false := BxA.free z 3
      have z4 : w'.cell? ⟨w.heap.size + 1 + 1, 4, none⟩ = some (.int .i64 0) := BxA.cell z 4 _ rfl
      have q4 : w'.frozen? ⟨w.heap.size + 1 + 1, 4, none⟩ = false := BxA.free z 4
      have z5 : w'.cell? ⟨w.heap.size + 1 + 1, 5, none⟩ = some (.slice none 0 0) := BxA.cell z 5 _ rfl
      have q5 : w'.frozen? ⟨w.heap.size + 1 + 1, 5, none⟩ = false := BxA.free z 5
      have gY : w'.grownBy ((((((w'.setCell ⟨w.heap.size + 1 + 1, 0, none⟩ (.int .i64 KI)).setCell ⟨w.heap.size + 1 + 1, 1, none⟩ (.int .i64 DI)).setCell ⟨w.heap.size + 1 + 1, 2, none⟩ (.slice a1 n1 m1)).setCell ⟨w.heap.size + 1 + 1, 3, none⟩ (.int .i64 LO)).setCell ⟨w.heap.size + 1 + 1, 4, none⟩ (.int .i64 HI)).setCell ⟨w.heap.size + 1 + 1, 5, none⟩ (.slice a2 n2 m2)) (some (w.heap.size + 1 + 1)) := (grown_trans' (grown_trans' (grown_trans' (grown_trans' (grown_trans' grown_setCell grown_setCell) grown_setCell) grown_setCell) grown_setCell) grown_setCell)
      have xY : BxA ((((((w'.setCell ⟨w.heap.size + 1 + 1, 0, none⟩ (.int .i64 KI)).setCell ⟨w.heap.size + 1 + 1, 1, none⟩ (.int .i64 DI)).setCell ⟨w.heap.size + 1 + 1, 2, none⟩ (.slice a1 n1 m1)).setCell ⟨w.heap.size + 1 + 1, 3, none⟩ (.int .i64 LO)).setCell ⟨w.heap.size + 1 + 1, 4, none⟩ (.int .i64 HI)).setCell ⟨w.heap.size + 1 + 1, 5, none⟩ (.slice a2 n2 m2)) (w.heap.size + 1 + 1) 32 #[.int .i64 KI, .int .i64 DI, .slice a1 n1 m1, .int .i64 LO, .int .i64 HI, .slice a2 n2 m2] := (BxA.set (BxA.set (BxA.set (BxA.set (BxA.set (BxA.set z 0 (.int .i64 KI)) 1 (.int .i64 DI)) 2 (.slice a1 n1 m1)) 3 (.int .i64 LO)) 4 (.int .i64 HI)) 5 (.slice a2 n2 m2))
      have HG : Hid _ := (And.intro hS (And.intro iK (And.intro iD (And.intro ow (And.intro tl (And.intro iL (And.intro iH (And.intro wn (And.intro tr (And.intro z (And.intro G (And.intro gY xY))))))))))))
      clear hS iK iD ow tl iL iH wn tr z G gY xY
      have HF : Hid _ := And.intro (And.intro f0 (And.intro f2 (And.intro f4 (And.intro f5 (And.intro f6 (And.intro f8 (And.intro f10 (And.intro f12 f13)))))))) (And.intro dd1 (And.intro dd3 (And.intro dd7 (And.intro dd9 (And.intro dd11 (And.intro dd14 (And.intro dd15 dd16)))))))
      clear f0 f2 f4 f5 f6 f8 f10 f12 f13 dd1 dd3 dd7 dd9 dd11 dd14 dd15 dd16 hdp hd
      refine Opn.mk ?_
      dsimp only
      go_simp
      obtain ⟨hS, iK, iD, ow, tl, iL, iH, wn, tr, z, G, gY, xY⟩ := HG.out
      obtain ⟨⟨f0, f2, f4, f5, f6, f8, f10, f12, f13⟩, ⟨dd1, dd3, dd7, dd9, dd11, dd14, dd15, dd16⟩⟩ := HF.out
      refine hK.out (x10, .int .i64 KI, x12, .int .i64 DI, x14, x15, x16, .slice a1 n1 m1, x18, .int .i64 LO, x20, .int .i64 HI, x22, x23, .slice a2 n2 m2, .agg #[.int .i64 KI, .int .i64 DI, .slice a1 n1 m1, .int .i64 LO, .int .i64 HI, .slice a2 n2 m2]) _ ⟨?sg, ⟨(fun h => f0 (upd_ne h (by decide))), (fun h => f2 (upd_ne h (by decide))), (fun h => f4 (upd_ne h (by decide))), (fun h => f5 (upd_ne h (by decide))), (fun h => f6 (upd_ne h (by decide))), (fun h => f8 (upd_ne h (by decide))), (fun h => f10 (upd_ne h (by decide))), (fun h => f12 (upd_ne h (by decide))), (fun h => f13 (upd_ne h (by decide)))⟩, 8, by decide, ⟨((upd_no (by decide)).trans (dd1.trans (by decide))), ((upd_no (by decide)).trans (dd3.trans (by decide))), ((upd_no (by decide)).trans (dd7.trans (by decide))), ((upd_no (by decide)).trans (dd9.trans (by decide))), ((upd_no (by decide)).trans (dd11.trans (by decide))), ((upd_no (by decide)).trans (dd14.trans (by decide))), ((upd_no (by decide)).trans (dd15.trans (by decide))), (by simp [upd])⟩, ⟨(fun h => absurd h (by decide)), (fun h => absurd h (by decide)), (fun h => absurd h (by decide)), (fun h => absurd h (by decide)), (fun h => absurd h (by decide)), (fun h => absurd h (by decide)), (fun h => absurd h (by decide)), (fun h => absurd h (by decide)), (fun _ => ?new)⟩⟩
      case sg => exact ⟨BxA.grow hS.1 gY (by omega), BxA.grow hS.2 gY (by omega)⟩
      case new =>
        have KF := BxA.ktt z gY
        exact ⟨KI, DI, a1, n1, m1, ts, LO, HI, a2, n2, m2, ks, iK, iD, ⟨KF.own ow (by decide), tl⟩, iL, iH, ⟨wn.grow gY (by omega), tr⟩, xY, G.ps.keep (grown_above gY (by omega) (BxA.lt z)), fill_grown G.g gY (by omega), G.b⟩
  case he10 =>
    rintro d ⟨x10, x11, x12, x13, x14, x15, x16, x17, x18, x19, x20, x21, x22, x23, x24, x25⟩ w' hall hI
    dsimp only at hI
    obtain ⟨hS, ⟨f0, f2, f4, f5, f6, f8, f10, f12, f13⟩, j, hj, ⟨dd1, dd3, dd7, dd9, dd11, dd14, dd15, dd16⟩, ⟨p0, p1, p2, p3, p4, p5, p6, p7, p8⟩⟩ := hI
    obtain rfl := ph_end (k := 7) hj dd16 (hall 16 (by decide))
    have s := p8 rfl
    clear hall hj f0 f2 f4 f5 f6 f8 f10 f12 f13 dd1 dd3 dd7 dd9 dd11 dd14 dd15 dd16 p0 p1 p2 p3 p4 p5 p6 p7 p8
    obtain ⟨KI, DI, a1, n1, m1, ts, LO, HI, a2, n2, m2, ks, iK, iD, ⟨ow, tl⟩, iL, iH, ⟨wn, tr⟩, xY, G⟩ := s
    have y0 : w'.cell? ⟨w.heap.size + 1 + 1, 0, none⟩ = some (.int .i64 KI) := BxA.cell xY 0 _ rfl
    have y1 : w'.cell? ⟨w.heap.size + 1 + 1, 1, none⟩ = some (.int .i64 DI) := BxA.cell xY 1 _ rfl
    have y2 : w'.cell? ⟨w.heap.size + 1 + 1, 2, none⟩ = some (.slice a1 n1 m1) := BxA.cell xY 2 _ rfl
    have y3 : w'.cell? ⟨w.heap.size + 1 + 1, 3, none⟩ = some (.int .i64 LO) := BxA.cell xY 3 _ rfl
    have y4 : w'.cell? ⟨w.heap.size + 1 + 1, 4, none⟩ = some (.int .i64 HI) := BxA.cell xY 4 _ rfl
    have y5 : w'.cell? ⟨w.heap.size + 1 + 1, 5, none⟩ = some (.slice a2 n2 m2) := BxA.cell xY 5 _ rfl
    have HG : Hid _ := (And.intro iK (And.intro iD (And.intro ow (And.intro tl (And.intro iL (And.intro iH (And.intro wn (And.intro tr G))))))))
    clear iK iD ow tl iL iH wn tr xY G hS
    dsimp only
    go_wp2_with fail
    refine bodyPost_ret (v := .agg #[.int .i64 KI, .int .i64 DI, .slice a1 n1 m1, .int .i64 LO, .int .i64 HI, .slice a2 n2 m2]) (by simp [results, Try.results99, go_sem, y0, y1, y2, y3, y4, y5]) rfl ?_
    obtain ⟨iK, iD, ow, tl, iL, iH, wn, tr, G⟩ := HG.out
    refine ⟨Fi.Tr.mk KI DI (.slice a1 n1 m1) ts LO HI (.slice a2 n2 m2) ks, rfl, ?_, ⟨⟨iK, iD, iL, iH, txs_of tl, tr⟩, ⟨_, _, _, rfl⟩, ⟨_, _, _, rfl⟩⟩, G.ps, G.g, fun h0 h2 => ?_⟩
    · exact (((own_win ow).both wn).imp fun _ r => ⟨own_rds r.1, r.2.1, r.2.2⟩).mono (by omega)
    · have e := G.b h0 h2
      rw [r_fil_eq]
      refine Eq.trans ?_ e
      simp only [List.append_assoc]
      rfl
theorem gfil (B R : Nat) (l : Bs) (hlb : l.length ≤ 1048576) : ∀ k d, d + k = 21 → FilC B R l k d
  | 0, d, h => gfil_deep B R l d h
  | k + 1, d, h => gfil_step B R l k d (by omega) hlb (gfil B R l hlb k (d + 1) (by omega))
end Go.Proofs.Ytpdlioidiobbbaa
