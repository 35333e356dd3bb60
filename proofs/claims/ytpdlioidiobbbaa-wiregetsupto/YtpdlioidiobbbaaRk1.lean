/- The reference's readers of spans, segments, texts. -/
import Derived.Test.YtpdlioidiobbbaaRk0
namespace Go.Proofs.Ytpdlioidiobbbaa
open Go.RowKit

set_option maxRecDepth 100000 in
set_option maxHeartbeats 6400000 in
theorem kspan (B R : Nat) (v : Value) (l : Bs) (w : World) (p e : Nat) (_hlb : l.length ≤ 1048576) (h : RP B R v l w p e) :
    Calls Try.prog 65 #[.pointer (some ⟨R, 0, none⟩)] w fun er w' => ∃ F T : Int, er = .returned (.agg #[.int .i64 F, .int .i64 T]) ∧ In64 F ∧ In64 T ∧ GK B R v l w w' (p, e) (skSpan l) (r_span F T) := by
  have hRw := h.lt
  have hple := h.le
  have h0 : RP B R v l (w.alloc (.cells #[.int .i64 0, .int .i64 0] 29)) p e := h.keep ((Below.refl (R + 1) w).alloc hRw _)
  have x0 : BxA (w.alloc (.cells #[.int .i64 0, .int .i64 0] 29)) w.heap.size 29 #[.int .i64 0, .int .i64 0] := BxA.new _ _ _
  have G0 : w.grownBy (w.alloc (.cells #[.int .i64 0, .int .i64 0] 29)) (some R) := grown_alloc _ _ _
  have H0 : Hid _ := h0
  have X0 : Hid _ := x0
  have GG0 : Hid _ := G0
  clear h0 x0 G0 h
  go_enter Try.func65, Try.ntmps65
  go_wp2_with fail
  refine (kint B R v l _ _ _ H0.out).mono ?_
  rintro er w1 ⟨F, rfl, iF, G⟩
  have G1 : Hid (GK B R v l _ w1 _ _ _) := G
  have K := RP.ktt (H0.out) G.g
  have X1 : Hid (BxA w1 w.heap.size 29 #[.int .i64 0, .int .i64 0]) := BxA.grow X0.out G.g (by omega)
  have GG1 : Hid (w.grownBy w1 (some R)) := grown_trans' GG0.out G.g
  clear G K
  go_wp2_with fail
  refine (kint B R v l _ _ _ G1.out.ps).mono ?_
  rintro er w2 ⟨T, rfl, iT, G⟩
  have G2 : Hid (GK B R v l _ w2 _ _ _) := G
  have K := RP.ktt (G1.out.ps) G.g
  have X2 : Hid (BxA w2 w.heap.size 29 #[.int .i64 0, .int .i64 0]) := BxA.grow X1.out G.g (by omega)
  have GG2 : Hid (w.grownBy w2 (some R)) := grown_trans' GG1.out G.g
  clear G K
  have z0 : w2.cell? ⟨w.heap.size, 0, none⟩ = some (.int .i64 0) := X2.out.cell 0 _ rfl
  have f0 : w2.frozen? ⟨w.heap.size, 0, none⟩ = false := X2.out.free 0
  have z1 : w2.cell? ⟨w.heap.size, 1, none⟩ = some (.int .i64 0) := X2.out.cell 1 _ rfl
  have f1 : w2.frozen? ⟨w.heap.size, 1, none⟩ = false := X2.out.free 1
  obtain ⟨Y, hY⟩ : ∃ Y, Y = ((w2.setCell ⟨w.heap.size, 0, none⟩ (.int .i64 F)).setCell ⟨w.heap.size, 1, none⟩ (.int .i64 T)) := ⟨_, rfl⟩
  have gY : w2.grownBy Y (some w.heap.size) := by rw [hY]; exact (grown_trans' grown_setCell grown_setCell)
  have xY : BxA Y w.heap.size 29 #[.int .i64 F, .int .i64 T] := by rw [hY]; exact ((X2.out.set 0 (.int .i64 F)).set 1 (.int .i64 T))
  have HY : Hid (Y = _) := hY
  have GY : Hid (w2.grownBy Y (some w.heap.size)) := gY
  have y0 : Y.cell? ⟨w.heap.size, 0, none⟩ = some (.int .i64 F) := xY.cell 0 _ rfl
  have y1 : Y.cell? ⟨w.heap.size, 1, none⟩ = some (.int .i64 T) := xY.cell 1 _ rfl
  clear hY gY xY
  go_wp2_with fail
  rw [← HY.out]
  refine bodyPost_ret (v := .agg #[.int .i64 F, .int .i64 T]) (by simp [results, Try.results65, go_sem, y0, y1]) rfl ?_
  have KY := BxA.ktt X2.out GY.out
  have bY : Below (R + 1) w2 Y := grown_above GY.out hRw (BxA.lt X2.out)
  have GA1 : GK B R v l w w1 (p, e) _ _ := ⟨G1.out.ps, GG1.out, G1.out.b⟩
  have GA2 := GK.comp hple (fwd_u l) (fwd_u l) GA1 G2.out
  refine ⟨F, T, rfl, iF, iT, ?_⟩
  exact ⟨GA2.ps.keep bY, fill_grown GG2.out GY.out (Nat.le_refl _), fun h0 h2 => by have e := GA2.b h0 h2; first | exact e | (refine Eq.trans ?_ e; simp [r_txt, rl, List.append_assoc]) | (refine Eq.trans ?_ e; simp [r_txt, rl, r_grp, List.append_assoc])⟩
set_option maxRecDepth 100000 in
set_option maxHeartbeats 3200000 in
theorem ktexts (B R : Nat) (v : Value) (l : Bs) (w : World) (p e : Nat) (hlb : l.length ≤ 1048576) (h : RP B R v l w p e) :
    Calls Try.prog 61 #[.pointer (some ⟨R, 0, none⟩)] w fun er w' => ∃ (x : Value) (xs : List Fi.Str), er = .returned x ∧ w'.ownsRow w.heap.size 9 1 x xs.length (xs.flatMap cl_str) ∧ (∀ t ∈ xs, t.length ≤ 1048576) ∧ GK B R v l w w' (p, e) (skTxt l) (r_txt xs) := by
  obtain ⟨i0, hi0, hz0, hz1, hz2⟩ := info_parts Try.inf_str
  have hRw := h.lt
  have hple := h.le
  have kC := kcount B R v l w p e hlb h
  obtain ⟨n, hn⟩ : ∃ n, n = (cS l p e 1).1 := ⟨_, rfl⟩
  obtain ⟨s1, hs1⟩ : ∃ s : Sg2, s = (cS l p e 1).2 := ⟨_, rfl⟩
  have hnl : n ≤ 1048576 := by rw [hn]; exact Nat.le_trans (c_le l p e hple) hlb
  have hne : 0 < n → s1.2 = 0 := fun h => by rw [hs1]; exact c_err l p e hple (by rw [← hn]; exact h)
  have e1 : (cS l p e 1).2.1 = s1.1 := by rw [hs1]
  have e2 : (cS l p e 1).2.2 = s1.2 := by rw [hs1]
  rw [← hn, e1, e2] at kC
  have HN : Hid (n = (cS l p e 1).1 ∧ s1 = (cS l p e 1).2) := ⟨hn, hs1⟩
  have HE : Aside (0 < n → s1.2 = 0) := hne
  have HPS : Hid (RP B R v l w p e) := h
  have HRW : Hid (R < w.heap.size) := hRw
  clear hn hs1 hne e1 e2 h hRw hple
  go_enter Try.func61, Try.ntmps61
  go_wp2_with fail
  refine kC.mono ?_
  rintro er w1 ⟨rfl, h1, g1⟩
  have HP1 : Hid (RP B R v l w1 s1.1 s1.2) := h1
  have HG1 : Hid (w.grownBy w1 (some R)) := g1
  clear kC h1 g1
  go_wp2_with fail
  go_loopg [4, 5] n (fun kx v4 v5 wr => ∃ (i : Nat) (xs : List Fi.Str) (x4 : Value), v5 = .int .i64 (i : Int) ∧ x4 = v4 ∧ i ≤ n ∧ n - i ≤ kx ∧ Hid (xs.length = i) ∧ Hid (wr.ownsRow w.heap.size 9 1 x4 i (xs.flatMap cl_str)) ∧ Hid (∀ x ∈ xs, x.length ≤ 1048576) ∧ Hid (RP B R v l wr (skN (skT l) i s1).1 (skN (skT l) i s1).2) ∧ Hid (w.grownBy wr (some R)) ∧ Hid (s1.2 = 0 → (skN (skT l) i s1).2 = 0 → xs.flatMap et = rd l s1.1 (skN (skT l) i s1).1))
  case atStart => exact ⟨0, [], _, rfl, rfl, by omega, Nat.le_refl _, rfl, ⟨rfl, .inl ⟨rfl, rfl⟩⟩, (fun _ h => by cases h), HP1, HG1, fun _ _ => by show _ = rd l s1.1 s1.1; simp [rd]⟩
  case round =>
    obtain ⟨i, xs, vr, rfl, rfl, hi, hkx, HX, HOW, HOK, HP, HG, HBB⟩ := hrel
    obtain ⟨E, hE⟩ : ∃ E, E = (skN (skT l) i s1).2 := ⟨_, rfl⟩
    have HEE : Hid (E = (skN (skT l) i s1).2) := hE
    have hks := HP.out.ks
    rw [← hE] at hks
    obtain ⟨c0, c1, c2, cf⟩ := hks.cells
    have HKS : Hid _ := hks
    clear hks hE cf c0 c1
    by_cases hlt : i < n
    · have hltz : (i : Int) < (n : Int) := by omega
      by_cases he : E = 0
      · subst he
        have kT := ktext B R v l wr _ _ hlb HP.out
        go_wp2_with fail
        refine kT.mono ?_
        rintro ev w2 ⟨x, rfl, hx, G⟩
        have HGT : Hid _ := G
        have HOW2 : Hid (w2.ownsRow w.heap.size 9 1 vr i (xs.flatMap cl_str)) := (HP.out.ktt G.g).own HOW.out (by decide)
        have HGW : Hid (w.grownBy w2 (some R)) := grown_trans' HG.out G.g
        have hsz2 : w.heap.size ≤ w2.heap.size := HGW.out.size
        have hz2' : R < w2.heap.size := G.ps.lt
        clear kT G
        go_wp2_with (first | (at_builtin; refine wpList_appK rfl _ _ 24 rfl w.heap.size 9 i0 (.string ⟨#[]⟩) 1 16 Try.underlying24 hi0 hz0 hz1 hz2 rfl (by decide) vr i (xs.flatMap cl_str) rfl (World.ownsRow.alloc HOW2.out (.cells #[.string ⟨x.toArray⟩] 9)) (.slice (some ⟨w2.heap.size, 0, none⟩) 1 1) 1 (cl_str x) rfl (by exact lit_rds' w2 [.string ⟨x.toArray⟩] 9 _ rfl) (fun u hu => by unfold cl_str at hu; simp at hu; subst hu; rfl) (by unfold maxLen; omega) (by omega) (Nat.le_trans hsz2 (by simp)) ?_; intro v3 w3 o3 g3; have HO3 : Hid (w3.ownsRow w.heap.size 9 1 v3 (i + 1) (xs.flatMap cl_str ++ cl_str x)) := o3; have HG3 : Hid ((w2.alloc (.cells #[.string ⟨x.toArray⟩] 9)).grownBy w3 vr.ownBlock) := g3; clear o3 g3))
        have BA : Below (R + 1) w2 w3 := by
          refine ((Below.refl (R + 1) w2).alloc hz2' _).grown HG3.out (Nat.le_trans hz2' (by simp)) fun g hg => ?_
          have := (World.ownsRow.lt (World.ownsRow.alloc HOW2.out (.cells #[.string ⟨x.toArray⟩] 9)) g hg).1
          have := HRW.out
          omega
        go_roundg (n - (i + 1))
        case measure => omega
        case rel =>
          have HS2 : skT l (skN (skT l) i s1) = skN (skT l) (i + 1) s1 := (skN_succ (skT l) i s1).symm
          refine ⟨i + 1, xs ++ [x], v3, by go_num, rfl, by omega, Nat.le_refl _, by apply hide; simp [HX.out], ?_, ?_, ?_, ?_, ?_⟩
          · apply hide
            have := HO3.out
            simpa using this
          · intro y hy
            rcases List.mem_append.1 hy with hy | hy
            · exact HOK.out y hy
            · simp at hy
              subst hy
              exact hx
          · apply hide
            rw [← HS2]
            exact HGT.out.ps.keep BA
          · exact grown_new (grown_trans' HGW.out (grown_alloc _ _ _)) (World.ownsRow.alloc HOW2.out (.cells #[.string ⟨x.toArray⟩] 9)) HG3.out
          · intro h0 h2
            have hle1 := (fwd_n (fwd_t l) i).le s1 HP1.out.le
            rw [List.flatMap_append, HBB.out h0 HEE.out.symm]
            rw [← HS2] at h2 ⊢
            simp only [List.flatMap_cons, List.flatMap_nil, List.append_nil]
            have hb := HGT.out.b HEE.out.symm h2
            exact (congrArg (rd l s1.1 (skN (skT l) i s1).1 ++ ·) hb).trans (rd_app l hle1.1 ((fwd_t l).le _ hle1.2).1).symm
      · have hE2 : ((E : Int) == 0) = false := by simpa using he
        go_wp2_with fail
        go_ret
        have es : skTxt l (p, e) = skN (skT l) i s1 := by
          show skN (skT l) (cS l p e 1).1 (cS l p e 1).2 = _
          rw [← HN.out.1, ← HN.out.2, show n = i + (n - i) by omega, skN_add]
          exact skN_stay (fwd_t l).stay _ _ (by rw [← HEE.out]; exact he)
        refine ⟨vr, xs, rfl, by rw [HX.out]; exact HOW.out, HOK.out, ?_, HG.out, fun _ h2 => ?_⟩
        · rw [es]; exact HP.out
        · rw [es, ← HEE.out] at h2; exact absurd h2 he
    · have hltz : ¬ (i : Int) < (n : Int) := by omega
      obtain rfl : i = n := by omega
      go_wp2_with fail
      go_ret
      have es : skTxt l (p, e) = skN (skT l) i s1 := by
        show skN (skT l) (cS l p e 1).1 (cS l p e 1).2 = _
        rw [← HN.out.1, ← HN.out.2]
      refine ⟨vr, rfl, xs, by rw [HX.out]; exact HOW.out, HOK.out, ?_, HG.out, fun h0 h2 => ?_⟩
      · rw [es]; exact HP.out
      · rw [es] at h2 ⊢
        have hs0 : s1.2 = 0 := Classical.byContradiction fun hn0 => by
          rw [skN_stay (fwd_t l).stay _ _ hn0] at h2
          exact hn0 h2
        have hcb := c_bytes l (p, e) h0 (by show (cS l p e 1).2.2 = 0; rw [← HN.out.2]; exact hs0)
        have hle0 := (fwd_c l).le (p, e) HPS.out.le
        have hle1 := (fwd_n (fwd_t l) i).le s1 HP1.out.le
        have e1 : (skC l (p, e)).1 = s1.1 := by show (cS l p e 1).2.1 = _; rw [← HN.out.2]
        show rl et xs = _
        unfold rl
        rw [HX.out, HBB.out hs0 h2]
        have e4 : Num.uv i = rd l p s1.1 := by
          have := hcb.1
          rw [e1] at this
          rw [HN.out.1]
          exact this
        rw [e4]
        exact (rd_app l (by rw [← e1]; exact hle0.1) hle1.1).symm
end Go.Proofs.Ytpdlioidiobbbaa
