/- What a cut has left stays behind every further one. -/
import Derived.Test.YtdcoeebpknipdaaTwM
import Derived.Shelf.SlSortCmp.QuietGrown
import Derived.BigQuiet
namespace Go.Proofs.Ytdcoeebpknipdaa
open Go.RowKit Go.Maps Go.Sort
set_option linter.unusedVariables false

theorem bk_new (w : World) : Bk (w.alloc (.cells #[.slice none 0 0, .slice none 0 0, .slice none 0 0] 41)) w.heap.size (fun i => i = w.heap.size) [] := ⟨_, _, _, BxA.new _ _ _, RowL.nil _ _ _, RowL.nil _ _ _, RowL.nil _ _ _, (fun r hr => by cases hr), rfl, (fun r hr => by cases hr), (fun r hr => by cases hr), (fun r hr => by cases hr), by simp, fun i hi => by rw [hi]; simp⟩
theorem below_gr (w : World) (q : Nat) (os : Array Obj) : Below w.heap.size w (Go.Sort.grow (w.drewN q) os) :=
  ⟨rfl, rfl, rfl, by show _ ≤ ((w.drewN q).heap ++ os).size; rw [Array.size_append]; exact Nat.le_add_right _ _, fun i hi => by
    show ((w.drewN q).heap ++ os)[i]? = _
    rw [Array.getElem?_append_left (by exact hi)]
    rfl⟩
theorem cell_gro {w : World} {a : Addr} {v : Value} (h : w.cell? a = some v) (nq : Nat) (os : Array Obj) : (Go.Sort.grow (w.drewN nq) os).cell? a = some v := by
  rw [(below_gr w nq os).cell (World.block_lt_of_cell? _ _ h), h]
theorem ext_take (l : Str) (m : Nat) : (⟨l.toArray⟩ : ByteArray).extract 0 m = ⟨(l.take m).toArray⟩ := by
  apply ByteArray.ext
  simp [ByteArray.data_extract]
theorem own_keep {w w' : World} {base e n : Nat} {v : Value} {xs : List Value} (h : w.ownsRow base e 1 v n xs) (hb : ∀ r, v.ownBlock = some r → w'.heap[r]? = w.heap[r]?) : w'.ownsRow base e 1 v n xs := by
  refine ⟨h.1, ?_⟩
  rcases h.2 with h2 | ⟨g, cap, cur, h1, h2, h3, h4⟩
  · exact .inl h2
  · exact .inr ⟨g, cap, cur, h1, h2, by rw [hb g (by rw [h1]; rfl)]; exact h3, h4⟩
theorem take_map1 {α β : Type} {l : List α} {k : Nat} (hk : k < l.length) (g : α → β) : (l.take (k + 1)).map g = (l.take k).map g ++ [g l[k]] := by
  rw [List.take_add_one, List.getElem?_eq_getElem hk, List.map_append]
  rfl
set_option maxRecDepth 100000 in
set_option maxHeartbeats 6400000 in
theorem diskTwice_walk (w : World) (v : Value) (ol : List OpM) (h : OpR w v ol) (part : Int) (hp1 : -9223372036854775808 ≤ part) (hp2 : part ≤ 9223372036854775807) (again : Int) (hq1 : -9223372036854775808 ≤ again) (hq2 : again ≤ 9223372036854775807) : Calls Try.prog 5 #[v, .int .i64 part, .int .i64 again] w fun e w' => e = .returned (.bool true) ∧ Below w.heap.size w w' := by
  have mixed : Try.prog.follows .mixedOrders = true := by kernel_rfl
  obtain ⟨i0, hi0, hz0, hz1, hz2⟩ := info_parts Try.info_str
  have HOK : Hid (∀ o ∈ ol, o.Ok w) := h.ok
  obtain ⟨va, vc, rfl, hvc1, hvc2, hcs⟩ := h.ex
  obtain ⟨n, hn⟩ : ∃ n, n = ol.length := ⟨_, rfl⟩
  rw [← hn] at hvc1
  rw [← hn]
  have HCS : Hid (0 < ol.length → ∃ b off, va = some ⟨b, off, none⟩ ∧ ∀ i (hi : i < ol.length) c u, (ol[i]).cs[c]? = some u → w.cell? ⟨b, off + (i * 5 + c), none⟩ = some u) := hcs
  have HN : Hid (n = ol.length) := hn
  unfold maxLen at hvc2
  clear h hn hcs
  go_enter Try.func5, Try.ntmps5
  go_wp2_with fail
  refine (awake_any w).mono ?_
  rintro e w1 ⟨rfl, b1⟩
  have kN := new_ld w w1 b1
  clear b1
  go_wp2_with fail
  refine kN.mono ?_
  rintro e w2 ⟨rfl, h2⟩
  obtain ⟨d, hd⟩ : ∃ d, d = w1.heap.size := ⟨_, rfl⟩
  rw [← hd] at h2
  rw [← hd]
  have H2 : Hid (LD w w2 d (fun i => i = d) 0 st0) := h2
  clear h2 hd kN
  go_wp2_with fail
  have HP0 : Hid (Pl w (w2.alloc (.cells #[.slice none 0 0, .slice none 0 0, .slice none 0 0] 41)) w2.heap.size d 0 [] st0) := Pl.start H2.out (bk_new w2) ((Below.refl _ _).alloc (Nat.le_refl _) _) (fun i hi => by rw [hi]; exact Nat.le_refl _)
  obtain ⟨bk, hbk⟩ : ∃ b, b = w2.heap.size := ⟨_, rfl⟩
  rw [← hbk] at HP0
  rw [← hbk]
  clear hbk H2
  go_loopg [10, 11] n (fun kx v8 _ wr => ∃ (i : Nat) (E : List Fl) (s : St), v8 = .int .i64 (i : Int) ∧ i ≤ n ∧ i ≤ 60 ∧ n - i ≤ kx ∧ Hid (Pl w wr bk d i E s))
  case atStart => exact ⟨0, _, _, rfl, Nat.zero_le _, Nat.zero_le _, Nat.le_refl _, HP0⟩
  case round =>
    obtain ⟨i, E, s, rfl, hi, hiL, hkx, HP⟩ := hrel
    clear HP0
    by_cases hlt : i < n ∧ i < 60
    · have hltz : (i : Int) < (n : Int) := by omega
      have hLz : (i : Int) < 60 := by omega
      have hil : i < ol.length := by have := HN.out; omega
      obtain ⟨vb, vo, rfl, hcs⟩ := HCS.out (by omega)
      have hbel := HP.out.bel
      have hcell : ∀ c u, (ol[i]).cs[c]? = some u → wr.cell? ⟨vb, vo + i * 5 + c, none⟩ = some u := fun c u hu => by
        have h0 := hcs i hil c u hu
        rw [Nat.add_assoc]
        exact (hbel.cell (World.block_lt_of_cell? _ _ h0)).trans h0
      have hok := HOK.out _ (List.getElem_mem hil)
      obtain ⟨o, ho⟩ : ∃ o, o = ol[i] := ⟨_, rfl⟩
      rw [← ho] at hok hcell
      have kT := note_pl w wr bk d i E s o HP.out (by omega) hok
      have c0 := hcell 0 _ rfl
      have c1 := hcell 1 _ rfl
      have c2 := hcell 2 _ rfl
      have c3 := hcell 3 _ rfl
      have c4 := hcell 4 _ rfl
      simp only [Nat.add_zero] at c0
      have hw1 : wrap64 ((i : Int) + 1) = (i : Int) + 1 := by rw [← IntWalk.i64_left, IntKind.wrap_i64]; omega
      clear hcs hbel hcell ho hok hil
      go_wp2_with fail
      refine kT.mono ?_
      rintro e w3 ⟨rfl, E3, s3, p3⟩
      have HP3 : Hid _ := p3
      clear kT p3
      go_wp2_with fail
      go_roundg (n - (i + 1))
      case measure => omega
      case rel => exact ⟨i + 1, E3, s3, by go_num, by omega, by omega, Nat.le_refl _, HP3⟩
    · have hcas : ((i : Int) < (n : Int) ∧ ¬ (i : Int) < 60) ∨ ¬ (i : Int) < (n : Int) := by omega
      clear hlt HCS HOK
      obtain ⟨⟨G, F, hB, hD, hap, hG, hF⟩, bel, pm, nms, off, set, ops⟩ := HP.out
      have kC := cut_any wr d (i * 1048576) F s part hD
      have HGF : Hid (∀ i, F i → w.heap.size ≤ i) := hF
      have HBEL : Hid _ := bel
      have hs1 : Nms (s.cut part).on.fs := by
        have e : (s.cut part).on.fs = s.fs.map (cutF part) := (cut_fs off part).1
        rw [e]
        exact cut_nms nms part
      have h2 := two_same off part again
      obtain ⟨s1, hs⟩ : ∃ s1, s1 = (s.cut part).on := ⟨_, rfl⟩
      rw [← hs] at hs1 h2
      have ho1 : s1.off = false := by rw [hs]; rfl
      have hll : (lstN s1 []).length ≤ 5 := by rw [lst_len ho1]; exact hs1.few
      have HS : Hid (s1 = (s.cut part).on) := hs
      have HO1 : Hid (s1.off = false) := ho1
      have HM1 : Hid (Nms s1.fs) := hs1
      have H2 : Hid ((s1.cut again).on.fs = s1.fs) := h2
      obtain ⟨l, hl⟩ : ∃ l, l = lstN s1 [] := ⟨_, rfl⟩
      rw [← hl] at hll
      have HL : Hid (l = lstN s1 []) := hl
      clear hB hD hap hG hF bel pm nms off set ops HP hs hs1 h2 ho1 hl
      obtain ⟨N, hN⟩ : ∃ N, N = i * 1048576 := ⟨_, rfl⟩
      have hNb : N ≤ 100000000 := by omega
      rw [← hN] at kC
      clear hN
      rcases hcas with ⟨hA, hB'⟩ | hA
      all_goals
        go_wp2_with fail
        refine kC.mono ?_
        rintro e w4 ⟨rfl, d4, f4⟩
        have kn := on_any w4 d _ F (s.cut part) d4
        have HF4 : Hid (Fr F wr w4) := f4
        clear kC d4 f4
        go_wp2_with fail
        refine kn.mono ?_
        rintro e w5 ⟨rfl, d5, f5⟩
        have d5' : Dk w5 d F N s1 := by rw [HS.out]; exact d5
        have kL := list_any w5 d _ F s1 [] d5'
        rw [← HL.out] at kL
        have HD5 : Hid (Dk w5 d F N s1) := d5'
        have HF5 : Hid (Fr F wr w5) := HF4.out.trans f5 fun _ _ h => h
        clear kn d5 d5' f5 HF4
        go_wp2_with fail
        refine kL.mono ?_
        rintro e w6 ⟨lv, rfl, o6, -, b6⟩
        have HBE6 : Hid (Below w.heap.size w w6) := HBEL.out.trans (((HF5.out.below HBEL.out.size HGF.out).trans (b6.mono (Nat.le_trans HBEL.out.size HF5.out.size))))
        have HD6 : Hid (Dk w6 d F N s1) := HD5.out.below b6
        obtain ⟨la, lc, hlv, hlc1, hlc2, -⟩ := o6.rds.len
        subst hlv
        have HO6 : Hid (Own w6 w5.heap.size 9 (.slice la l.length lc) (sv l)) := o6
        have HL5 : Hid (∀ i, F i → i < w5.heap.size) := HD5.out.lt
        clear kL o6 b6 HF5 HD5
        unfold maxLen at hlc2
        go_wp2_with fail
        go_loopg [12, 14, 15, 16] l.length (fun kx v12 v14 _ _ wq => ∃ (k : Nat) (x12 : Value) (ws : List Str), x12 = v12 ∧ v14 = .int .i64 (k : Int) ∧ k ≤ l.length ∧ l.length - k ≤ kx ∧ Hid (ws = (l.take k).map (rdC s1)) ∧ Hid (wq.ownsRow w6.heap.size 9 1 x12 ws.length (sv ws)) ∧ Hid (Below w6.heap.size w6 wq))
        case atStart => exact ⟨0, _, [], rfl, rfl, Nat.zero_le _, Nat.le_refl _, rfl, ⟨rfl, .inl ⟨rfl, rfl⟩⟩, Below.refl _ _⟩
        case round =>
          rename World => wq
          obtain ⟨k, x12, ws, rfl, rfl, hk, hkx, HWS, HW, HBQ⟩ := hrel
          have hwl : ws.length = k := by rw [HWS.out, List.length_map, List.length_take]; omega
          have HWL : Hid (ws.length = k) := hwl
          clear hwl
          by_cases hkl : k < l.length
          · have hklz : (k : Int) < (l.length : Int) := by omega
            have hgl : ws.length ≤ 60 := by rw [HWL.out]; omega
            obtain ⟨la', lc', hle, -, -, hlc⟩ := HO6.out.rds.len
            simp only [Value.slice.injEq, true_and] at hle
            obtain ⟨rfl, rfl⟩ := hle
            obtain ⟨lb, lo, rfl, hlx⟩ := hlc (by omega)
            have c0 := hlx k hkl
            have c1 : wq.cell? ⟨lb, lo + k, none⟩ = _ := (HBQ.out.cell (World.block_lt_of_cell? _ _ c0)).trans c0
            have hmem : l[k] ∈ lstN s1 [] := by rw [← HL.out]; exact List.getElem_mem hkl
            have HTM := take_map1 hkl (rdC s1)
            have kR := read_any wq d _ F s1 l[k] (HD6.out.below HBQ.out) (lst_mem HO1.out HM1.out hmem).2 (by omega)
            rw [(lst_mem HO1.out HM1.out hmem).1] at kR
            obtain ⟨t, ht⟩ : ∃ t, t = l[k] := ⟨_, rfl⟩
            rw [← ht] at kR c1 HTM
            obtain ⟨x, hx⟩ : ∃ x, x = rdC s1 t := ⟨_, rfl⟩
            rw [← hx] at kR HTM
            have HTM' : Hid _ := HTM
            have HW1 : Hid (wrap64 ((k : Int) + 1) = (k : Int) + 1) := by apply hide; rw [← IntWalk.i64_left, IntKind.wrap_i64]; omega
            clear c0 hlc hlx hmem ht hx HTM
            go_wp2_with fail
            refine kR.mono ?_
            rintro e w7 ⟨v7, rfl, o7, b7⟩
            have hcv := conv_string w7 v7 x o7.reads
            obtain ⟨ra, rc, hrv, -⟩ := o7.reads
            have ho7 : w7.ownsRow w6.heap.size 9 1 x12 ws.length (sv ws) := own_keep HW.out fun r hr => b7.block r (own_lt HW.out r hr).2
            have HW7 : Hid _ := ho7
            have HB7 : Hid (Below w6.heap.size w6 w7) := HBQ.out.trans (b7.mono HBQ.out.size)
            subst hrv
            have HLO : Hid (RdsK 1 (w7.alloc (.cells #[Value.string ⟨x.toArray⟩] 9)) (.slice (some ⟨w7.heap.size, 0, none⟩) 1 1) 1 [Value.string ⟨x.toArray⟩]) := RdsK.of_own (lit_own w7 [Value.string ⟨x.toArray⟩] 9 (by simp [maxLen]))
            have HAO : Hid ((w7.alloc (.cells #[Value.string ⟨x.toArray⟩] 9)).ownsRow w6.heap.size 9 1 x12 ws.length (sv ws)) := World.ownsRow.alloc ho7 _
            have hsz1 : w6.heap.size ≤ w7.heap.size := HB7.out.size
            clear kR o7 b7 c1 ho7
            go_wp2_with (first | (at_builtin; refine wpList_appF rfl _ _ 38 rfl w6.heap.size 9 i0 (.string ⟨#[]⟩) 1 16 Try.underlying38 hi0 hz0 hz1 hz2 rfl (by decide) x12 ws.length (sv ws) rfl HAO.out (.slice (some ⟨w7.heap.size, 0, none⟩) 1 1) 1 [Value.string ⟨x.toArray⟩] rfl HLO.out (fun u hu => by simp at hu; subst hu; rfl) (by unfold maxLen; omega) (by omega) (Nat.le_trans hsz1 (by simp)) ?_; intro v8 w8 o8 g8 fr8; have H8 : Hid (w8.ownsRow w6.heap.size 9 1 v8 (ws.length + 1) (sv ws ++ [Value.string ⟨x.toArray⟩]) ∧ (w7.alloc (.cells #[Value.string ⟨x.toArray⟩] 9)).grownBy w8 x12.ownBlock) := ⟨o8, g8⟩; clear o8 g8 fr8))
            go_wp2_with fail
            obtain ⟨o8, g8⟩ := H8.out
            have gA : w7.grownBy w8 x12.ownBlock := grown_trans (grown_alloc _ _ _) g8
            go_roundg (l.length - (k + 1))
            case measure => exact Nat.lt_of_lt_of_le (Nat.sub_lt_sub_left hkl (Nat.lt_succ_self k)) hkx
            case rel =>
              refine ⟨k + 1, v8, ws ++ [x], rfl, by first | (rw [HW1.out]; rfl) | rfl, hkl, Nat.le_refl _, ?_, ?_, ?_⟩
              · apply hide
                rw [HTM'.out, HWS.out]
              · apply hide
                rw [sv_append, List.length_append]
                exact o8
              · exact HB7.out.trans ⟨gA.os, gA.tape, gA.output, gA.size, fun i hi => gA.block i (Nat.lt_of_lt_of_le hi hsz1) fun q => by have := (own_lt HW7.out i q.symm).1; omega⟩
          · have hklz : ¬ (k : Int) < (l.length : Int) := by omega
            have hke : k = l.length := by omega
            subst hke
            have kC2 := cut_any wq d _ F s1 again (HD6.out.below HBQ.out)
            go_wp2_with fail
            refine kC2.mono ?_
            rintro e w9 ⟨rfl, d9, f9⟩
            have kn2 := on_any w9 d _ F (s1.cut again) d9
            have HF9 : Hid (Fr F wq w9) := f9
            clear kC2 d9 f9
            go_wp2_with fail
            refine kn2.mono ?_
            rintro e wa ⟨rfl, da, fa⟩
            have HDa : Hid (Dk wa d F N (s1.cut again).on) := da
            have HFa : Hid (Fr F wq wa) := HF9.out.trans fa fun _ _ h => h
            have hsm := fun t => St.same (a := (s1.cut again).on) (b := s1) H2.out HO1.out.symm t
            have HSM : Hid _ := hsm
            have kL2 := list_any wa d _ F (s1.cut again).on [] da
            rw [(hsm []).2.2, ← HL.out] at kL2
            clear kn2 da fa HF9 hsm
            go_wp2_with fail
            refine kL2.mono ?_
            rintro e wb ⟨kv, rfl, ob, -, bb⟩
            have HLQ : Hid (Own wq w5.heap.size 9 (.slice la l.length lc) (sv l)) := own_keep HO6.out fun r hr => HBQ.out.block r (own_lt HO6.out r hr).2
            have ol : Own wa w5.heap.size 9 (.slice la l.length lc) (sv l) := own_keep HLQ.out fun r hr => HFa.out.block r (own_lt HLQ.out r hr).2 fun hf => by have := HL5.out r hf; have := (own_lt HLQ.out r hr).1; omega
            have ow : wa.ownsRow w6.heap.size 9 1 x12 ws.length (sv ws) := own_keep HW.out fun r hr => HFa.out.block r (own_lt HW.out r hr).2 fun hf => by have := HD6.out.lt r hf; have := (own_lt HW.out r hr).1; omega
            have hws : ws = l.map (rdC s1) := by rw [HWS.out, List.take_length]
            rw [hws] at ow
            have rW : Rds wb x12 (sv (l.map (rdC s1))) := (Own.rds (e := 9) (base := w6.heap.size) (by unfold Own; rw [sv_length]; exact ow)).below bb
            have kS := refsame_any wb _ kv l l (ol.rds.below bb) ob.rds
            obtain ⟨ka, kc, hkv, hkc1, hkc2, hkcell⟩ := ob.rds.len
            obtain ⟨wa1, wc1, hwv, hwc1, hwc2, hwcell⟩ := rW.len
            rw [List.length_map] at hwv hwc1
            subst hkv hwv
            have HKC : Hid _ := hkcell
            have HWC : Hid _ := hwcell
            have HBb : Hid (Below w.heap.size w wb) := by
              apply hide
              have q1 := HBE6.out.trans (HBQ.out.mono HBE6.out.size)
              have q2 := q1.trans (HFa.out.below q1.size HGF.out)
              exact q2.trans (bb.mono q2.size)
            have HDb : Hid (Dk wb d F N (s1.cut again).on) := HDa.out.below bb
            unfold maxLen at hkc2 hwc2
            clear kL2 ob bb ol ow rW hws hkcell hwcell HLQ HFa HDa HW HBQ HO6 HL5 HD6
            go_wp2_with fail
            refine kS.mono ?_
            rintro e wc ⟨rfl, bc⟩
            have HBc : Hid (Below wb.heap.size wb wc) := bc
            clear kS bc
            go_wp2_with fail
            go_loopg [18, 19, 20] l.length (fun kx v18 _ _ wq => ∃ (k : Nat), v18 = .int .i64 (k : Int) ∧ k ≤ l.length ∧ l.length - k ≤ kx ∧ Hid (Below wb.heap.size wb wq))
            case atStart => exact ⟨0, rfl, Nat.zero_le _, Nat.le_refl _, HBc⟩
            case round =>
              rename World => wy
              obtain ⟨j, rfl, hj, hjx, HBY⟩ := hrel
              by_cases hjl : j < l.length
              · have hjlz : (j : Int) < (l.length : Int) := by omega
                obtain ⟨kb, ko, rfl, kcc⟩ := HKC.out (by omega)
                obtain ⟨xb, xo, rfl, xcc⟩ := HWC.out (by rw [List.length_map]; omega)
                have c0 := kcc j hjl
                have c1 : wy.cell? ⟨kb, ko + j, none⟩ = _ := (HBY.out.cell (World.block_lt_of_cell? _ _ c0)).trans c0
                have e0 := xcc j (by rw [List.length_map]; exact hjl)
                have e1 : wy.cell? ⟨xb, xo + j, none⟩ = _ := (HBY.out.cell (World.block_lt_of_cell? _ _ e0)).trans e0
                rw [List.getElem_map] at e1
                have hmem : l[j] ∈ lstN s1 [] := by rw [← HL.out]; exact List.getElem_mem hjl
                have kR := read_any wy d _ F (s1.cut again).on l[j] (HDb.out.below HBY.out) (lst_mem HO1.out HM1.out hmem).2 (by omega)
                rw [(HSM.out l[j]).1, (HSM.out l[j]).2.1, (lst_mem HO1.out HM1.out hmem).1] at kR
                obtain ⟨t, ht⟩ : ∃ t, t = l[j] := ⟨_, rfl⟩
                rw [← ht] at kR c1 e1
                obtain ⟨x, hx⟩ : ∃ x, x = rdC s1 t := ⟨_, rfl⟩
                rw [← hx] at kR e1
                have HW1 : Hid (wrap64 ((j : Int) + 1) = (j : Int) + 1) := by apply hide; rw [← IntWalk.i64_left, IntKind.wrap_i64]; omega
                clear c0 e0 kcc xcc hmem ht hx
                go_wp2_with fail
                refine kR.mono ?_
                rintro e w7 ⟨v7, rfl, o7, b7⟩
                have HB7 : Hid (Below wb.heap.size wb w7) := HBY.out.trans (b7.mono HBY.out.size)
                have zcv := fun nq os => conv_string (Go.Sort.grow (w7.drewN nq) os) v7 _ (o7.reads.below (below_gr w7 nq os))
                have e2 : w7.cell? ⟨xb, xo + j, none⟩ = _ := (b7.cell (World.block_lt_of_cell? _ _ e1)).trans e1
                have ze := fun nq os => cell_gro e2 nq os
                obtain ⟨ra, rc, hrv, -⟩ := o7.reads
                subst hrv
                clear kR o7 b7 c1 e1 e2
                go_wp2_with fail
                refine wp_region_quiet_grown (by assumption) (by kernel_rfl) ?_
                repeat (go_big_quiet_step (fail))
                refine wpQuiet_nil ?_
                intro T hw'
                obtain ⟨⟨nq, osq⟩, hw''⟩ := hw'
                have HBT : Hid (Below wb.heap.size wb T) := by apply hide; rw [hw'']; exact HB7.out.trans ((below_gr w7 nq osq).mono HB7.out.size)
                clear hw'' zcv ze
                go_wp2_with fail
                go_roundg (l.length - (j + 1))
                case measure => exact Nat.lt_of_lt_of_le (Nat.sub_lt_sub_left hjl (Nat.lt_succ_self j)) hjx
                case rel => exact ⟨j + 1, by first | (rw [HW1.out]; rfl) | rfl, hjl, Nat.le_refl _, HBT⟩
              · have hjlz : ¬ (j : Int) < (l.length : Int) := by omega
                go_wp2_with fail
                go_ret
                exact ⟨rfl, HBb.out.trans (HBY.out.mono HBb.out.size)⟩
end Go.Proofs.Ytdcoeebpknipdaa
