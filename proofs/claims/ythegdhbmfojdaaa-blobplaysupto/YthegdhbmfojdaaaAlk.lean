/- Both are alike. -/
import Derived.Test.YthegdhbmfojdaaaBb0
import Derived.Shelf.SlSortCmp.QuietGrown
import Derived.BigQuiet
namespace Go.Proofs.Ythegdhbmfojdaaa
open Go.RowKit Go.Maps Go.Sort
set_option linter.unusedVariables false

theorem rls_all (l : List Fl) : preN l [] = l.map Fl.nm := by
  unfold preN
  have : (l.filter fun f => Lib.hasPrefix f.nm []) = l := List.filter_eq_self.2 fun f _ => by simp [Lib.hasPrefix]
  rw [this]
theorem Rel.onR {s : St} {t : RSt} (h : Rel s t) : Rel { s with off := false } { t with off := false } := ⟨h.sp, rfl, h.n, h.cut⟩
theorem Rel.names {s : St} {t : RSt} (h : Rel s t) : lstN { s with off := false } [] = t.fs.map Fl.nm := by
  rw [h.onR.list]
  show preN t.fs [] = _
  exact rls_all _
theorem Rel.readAt {s : St} {t : RSt} (h : Rel s t) (hn : NmS s) {i : Nat} {f : Fl} (hi : t.fs[i]? = some f) : rfF { s with off := false } f.nm [] = 0 ∧ rdC { s with off := false } f.nm = f.bs := by
  obtain ⟨e1, e2⟩ := h.onR.read f.nm
  have hf : f ∈ t.fs := List.mem_of_getElem? hi
  have h1 : rrc { t with off := false } f.nm f.nm = 0 := by
    unfold rrc
    have a := hn f (h.sp.pm.mem_iff.1 hf)
    have b : hasF t.fs f.nm = true := List.any_eq_true.2 ⟨f, hf, by simp⟩
    simp [a, b]
  rw [e1, e2]
  refine ⟨h1, ?_⟩
  unfold rrd
  rw [if_pos h1]
  unfold bytF
  show ((gotF t.fs f.nm).map Fl.bs).headD [] = f.bs
  rw [got_atR h.sp.srt.nd hi]
  rfl
set_option maxRecDepth 100000 in
set_option maxHeartbeats 6400000 in
theorem alike_any (w0 w : World) (sp dp rp m : Nat) (s : St) (t : RSt) (h : Qp w0 w sp dp rp m s t) (hm : m ≤ 100) :
    Calls Try.prog 15 #[.pointer (some ⟨dp, 0, none⟩), .pointer (some ⟨rp, 0, none⟩)] w fun e w' => e = .returned (.bool true) ∧ Below w0.heap.size w0 w' := by
  have mixed : Try.prog.follows .mixedOrders = true := by kernel_rfl
  obtain ⟨⟨F, G, h1, h2, h3, h4, h5, -, -⟩, -, bel, rel, hn, hp, nm⟩ := h
  obtain ⟨Lv, Z, hz⟩ := h2
  obtain ⟨N, hN⟩ : ∃ N, N = m * 4194304 := ⟨_, rfl⟩
  rw [← hN] at h1 hz
  have hNN : N ≤ 140737488355328 := by omega
  have HD : Hid (Dk w dp F N s) := h1
  have HZ : Hid (RZ w rp G N t Lv Z) := hz
  have HAP : Hid ((∀ i, F i → ¬ G i) ∧ (∀ i, F i → w0.heap.size ≤ i)) := ⟨h3, h4⟩
  have HREL : Hid (Rel s t) := rel
  have HNM : Hid (NmS s) := nm
  have HBEL : Hid (Below w0.heap.size w0 w) := bel
  have zO : ∀ nq os, Calls Try.prog 14 #[.pointer (some ⟨dp, 0, none⟩)] (Go.Sort.grow (w.drewN nq) os) fun e w' => e = .returned (.bool s.off) ∧ ∃ q os', w' = Go.Sort.grow ((Go.Sort.grow (w.drewN nq) os).drewN q) os' := fun nq os => (off_any _ dp N F s (h1.below (gro_below w nq os))).mono fun _ _ ⟨he, hw⟩ => ⟨he, 0, #[], by rw [hw, grow_empty]; rfl⟩
  have zP : ∀ nq os, Calls Try.prog 17 #[.pointer (some ⟨dp, 0, none⟩)] (Go.Sort.grow (w.drewN nq) os) fun e w' => e = .returned (.int .i64 (s.ops : Int)) ∧ ∃ q os', w' = Go.Sort.grow ((Go.Sort.grow (w.drewN nq) os).drewN q) os' := fun nq os => (ops_any _ dp N F s (h1.below (gro_below w nq os))).mono fun _ _ ⟨he, hw⟩ => ⟨he, 0, #[], by rw [hw, grow_empty]; rfl⟩
  have hb := hz.b
  rw [rel.off, rel.n] at hb
  have z1 := fun nq os => gro_cell (show w.cell? ⟨rp, 1, none⟩ = some (.bool s.off) from BxA.cell hb 1 _ rfl) nq os
  have z2 := fun nq os => gro_cell (show w.cell? ⟨rp, 2, none⟩ = some (.int .i64 (s.ops : Int)) from BxA.cell hb 2 _ rfl) nq os
  obtain ⟨so, hso⟩ : ∃ so, so = s.off := ⟨_, rfl⟩
  rw [← hso] at zO z1
  have hbo : (so != so) = false := by simp
  clear h1 h3 h4 h5 hz hb rel nm bel hp hso hn hN hm
  go_enter Try.func15, Try.ntmps15
  go_upto_region 1 with fail
  refine wp_region_quiet_grown (by assumption) (by kernel_rfl) ?_
  repeat (go_big_quiet_step (first | (go_at_call 14; with_reducible refine Calls.grown_of (zO _ _)) | (go_at_call 17; with_reducible refine Calls.grown_of (zP _ _))))
  refine wpQuiet_nil ?_
  intro T hw'
  obtain ⟨⟨nq, osq⟩, hw''⟩ := hw'
  have HBT : Hid (Below w.heap.size w T) := by apply hide; rw [hw'']; exact gro_below w nq osq
  have HDT : Hid (Dk T dp F N s) := HD.out.below HBT.out
  have HZT : Hid (RZ T rp G N t Lv Z) := HZ.out.frame HBT.out.size fun i hi => HBT.out.block i (HZ.out.lt i hi)
  have kn := on_any T dp N F s HDT.out
  clear hw'' zO zP z1 z2 hbo
  go_wp2_with fail
  refine kn.mono ?_
  rintro e w5 ⟨rfl, d5, f5⟩
  have HZ5 : Hid (RZ w5 rp G N t Lv Z) := HZT.out.frame f5.size fun i hi => f5.block i (HZT.out.lt i hi) fun q => HAP.out.1 i q hi
  have HB5 : Hid (Below w0.heap.size w0 w5) := (HBEL.out.trans (HBT.out.mono HBEL.out.size)).trans (f5.below (HBEL.out.trans (HBT.out.mono HBEL.out.size)).size HAP.out.2)
  have HD5 : Hid (Dk w5 dp F N { s with off := false }) := d5
  have kL := list_any w5 dp N F { s with off := false } [] d5
  rw [HREL.out.names] at kL
  clear kn d5 f5 HDT HZT
  go_wp2_with fail
  refine kL.mono ?_
  rintro e w6 ⟨lv, rfl, o6, -, b6⟩
  have HZ6 : Hid (RZ w6 rp G N t Lv Z) := HZ5.out.frame b6.size fun i hi => b6.block i (HZ5.out.lt i hi)
  have HB6 : Hid (Below w0.heap.size w0 w6) := HB5.out.trans (b6.mono HB5.out.size)
  have HD6 : Hid (Dk w6 dp F N { s with off := false }) := HD5.out.below b6
  obtain ⟨la, lc, rfl, l1, l2, l3⟩ := o6.rds.len
  obtain ⟨ra, rc, hLv, r1, r2, r3⟩ := HZ6.out.cells
  subst hLv
  obtain ⟨n, hnn⟩ : ∃ n, n = Z.length := ⟨_, rfl⟩
  have hZf : t.fs.length = n := by rw [← HZ6.out.fs, List.length_map, hnn]
  have hln : (t.fs.map Fl.nm).length = n := by rw [List.length_map]; exact hZf
  have HL3 : Hid (0 < (t.fs.map Fl.nm).length → ∃ b o, la = some ⟨b, o, none⟩ ∧ ∀ i (hi : i < (t.fs.map Fl.nm).length), w6.cell? ⟨b, o + i, none⟩ = some (.string ⟨(t.fs.map Fl.nm)[i].toArray⟩)) := l3
  have HR3 : Hid _ := r3
  rw [hln] at l1
  rw [hln]
  rw [← hnn] at r1
  have HNZ : Hid (n = Z.length ∧ t.fs.length = n) := ⟨hnn, hZf⟩
  have c0 : w6.cell? ⟨rp, 0, none⟩ = some (.slice ra n rc) := by rw [hnn]; exact BxA.cell HZ6.out.b 0 _ rfl
  unfold maxLen at l2 r2
  clear kL o6 b6 l3 r3 hnn hZf hln HD5 HZ5 HB5
  go_wp2_with fail
  go_loopg [6, 7, 8] n (fun kx v6 _ _ wq => ∃ (k : Nat), v6 = .int .i64 (k : Int) ∧ k ≤ n ∧ n - k ≤ kx ∧ Hid (Below w6.heap.size w6 wq))
  case atStart => exact ⟨0, rfl, Nat.zero_le _, Nat.le_refl _, Below.refl _ _⟩
  case round =>
    rename World => wq
    obtain ⟨k, rfl, hk, hkx, HBQ⟩ := hrel
    by_cases hkl : k < n
    · have hklz : (k : Int) < (n : Int) := by omega
      have hkZ : k < Z.length := by have := HNZ.out.1; omega
      have hkf : k < t.fs.length := by have := HNZ.out.2; omega
      obtain ⟨lb, lo, rfl, lcs⟩ := HL3.out (by rw [List.length_map]; omega)
      obtain ⟨g, rfl, rcs'⟩ := HR3.out (by omega)
      obtain ⟨x, hx⟩ : ∃ x, x = Z[k]'hkZ := ⟨_, rfl⟩
      have hfx : t.fs[k]? = some x.fl := by rw [← HZ6.out.fs, List.getElem?_map, List.getElem?_eq_getElem hkZ, hx]; rfl
      have hnx : (t.fs.map Fl.nm)[k]'(by rw [List.length_map]; exact hkf) = x.nm := by
        rw [List.getElem_map]
        have : t.fs[k] = x.fl := by have := List.getElem?_eq_getElem hkf; rw [hfx] at this; exact (Option.some.inj this).symm
        rw [this]; rfl
      have cl := lcs k (by rw [List.length_map]; exact hkf)
      rw [hnx] at cl
      have cl' : wq.cell? ⟨lb, lo + k, none⟩ = some (.string ⟨x.nm.toArray⟩) := (HBQ.out.cell (World.block_lt_of_cell? _ _ cl)).trans cl
      obtain ⟨q1, q2, -⟩ := rcs' k hkZ
      rw [← hx] at q1 q2
      obtain ⟨xo, -, xs⟩ := HZ6.out.e x (by rw [hx]; exact List.getElem_mem hkZ)
      obtain ⟨f1, f2⟩ := HREL.out.readAt HNM.out hfx
      have hxl : x.nm.length ≤ maxLen := by
        have := HNM.out x.fl (HREL.out.sp.pm.mem_iff.1 (List.mem_of_getElem? hfx))
        have h2 : isNm x.nm = true := this
        unfold isNm at h2
        unfold maxLen
        simp at h2
        omega
      have kR := read_any wq dp N F { s with off := false } x.nm (HD6.out.below HBQ.out) hxl hNN
      have e1 : x.fl.nm = x.nm := rfl
      have e2 : x.fl.bs = x.bs := rfl
      rw [e1] at f1 f2
      rw [e2] at f2
      rw [f1, f2] at kR
      have hw1 : wrap64 ((k : Int) + 1) = (k : Int) + 1 := by rw [← IntWalk.i64_left, IntKind.wrap_i64]; omega
      have HW1 : Hid (wrap64 ((k : Int) + 1) = (k : Int) + 1) := hw1
      have HX : Hid (Owns w6 0 x.v x.bs) := xo
      obtain ⟨va, vc, hv, -⟩ := owns_sl xo
      have HQ : Hid (w6.cell? ⟨rp, 0, none⟩ = some (.slice (some ⟨g, 0, none⟩) n rc) ∧ w6.cell? ⟨g, k * 3, none⟩ = some (.string ⟨x.nm.toArray⟩) ∧ w6.cell? ⟨g, k * 3 + 1, none⟩ = some x.v ∧ w6.cell? ⟨lb, lo + k, none⟩ = some (.string ⟨x.nm.toArray⟩)) := ⟨c0, q1, q2, cl⟩
      clear hx hfx hnx cl q1 q2 xo xs f1 f2 hxl e1 e2 lcs rcs' hw1 hkZ hkf
      go_wp2_with fail
      refine kR.mono ?_
      rintro e w7 ⟨v7, rfl, o7, b7⟩
      have HB7 : Hid (Below w6.heap.size w6 w7) := HBQ.out.trans (b7.mono HBQ.out.size)
      have hr7 := o7.reads
      obtain ⟨ya, yc, hrv, -⟩ := hr7
      have zcv := fun nq os => conv_string (Go.Sort.grow (w7.drewN nq) os) v7 _ (o7.reads.below (gro_below w7 nq os))
      have zcx := fun nq os => conv_string (Go.Sort.grow (w7.drewN nq) os) x.v _ ((HX.out.reads.below HB7.out).below (gro_below w7 nq os))
      have zz : ∀ {a : Addr} {u : Value}, w6.cell? a = some u → ∀ nq os, (Go.Sort.grow (w7.drewN nq) os).cell? a = some u := fun hc nq os => gro_cell ((HB7.out.cell (World.block_lt_of_cell? _ _ hc)).trans hc) nq os
      have y0 := zz HQ.out.1
      have y1 := zz HQ.out.2.1
      have y2 := zz HQ.out.2.2.1
      have y3 := zz HQ.out.2.2.2
      rw [hv] at y2 zcx
      subst hrv
      clear kR o7 b7 zz cl' hv
      go_wp2_with fail
      refine wp_region_quiet_grown (by assumption) (by kernel_rfl) ?_
      repeat (go_big_quiet_step (fail))
      refine wpQuiet_nil ?_
      intro T hw'
      obtain ⟨⟨nq, osq⟩, hw''⟩ := hw'
      have HBT : Hid (Below w6.heap.size w6 T) := by apply hide; rw [hw'']; exact HB7.out.trans ((gro_below w7 nq osq).mono HB7.out.size)
      clear hw'' y0 y1 y2 y3 zcv zcx
      go_wp2_with fail
      go_roundg (n - (k + 1))
      case measure => exact Nat.lt_of_lt_of_le (Nat.sub_lt_sub_left hkl (Nat.lt_succ_self k)) hkx
      case rel => exact ⟨k + 1, by first | (rw [HW1.out]; rfl) | rfl, hkl, Nat.le_refl _, HBT⟩
    · have hklz : ¬ (k : Int) < (n : Int) := by omega
      go_wp2_with fail
      go_ret
      exact ⟨rfl, HB6.out.trans (HBQ.out.mono HB6.out.size)⟩
end Go.Proofs.Ythegdhbmfojdaaa
