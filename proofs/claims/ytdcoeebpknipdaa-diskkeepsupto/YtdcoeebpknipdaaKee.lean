/- What is left behind a cut. -/
import Derived.Test.YtdcoeebpknipdaaKeM
import Derived.Shelf.SlSortCmp.QuietGrown
import Derived.BigQuiet
namespace Go.Proofs.Ytdcoeebpknipdaa
open Go.RowKit Go.Maps Go.Sort

theorem bk_new (w : World) : Bk (w.alloc (.cells #[.slice none 0 0, .slice none 0 0, .slice none 0 0] 41)) w.heap.size (fun i => i = w.heap.size) [] := ⟨_, _, _, BxA.new _ _ _, RowL.nil _ _ _, RowL.nil _ _ _, RowL.nil _ _ _, (fun r hr => by cases hr), rfl, (fun r hr => by cases hr), (fun r hr => by cases hr), (fun r hr => by cases hr), by simp, fun i hi => by rw [hi]; simp⟩
theorem below_gr (w : World) (q : Nat) (os : Array Obj) : Below w.heap.size w (Go.Sort.grow (w.drewN q) os) :=
  ⟨rfl, rfl, rfl, by show _ ≤ ((w.drewN q).heap ++ os).size; rw [Array.size_append]; exact Nat.le_add_right _ _, fun i hi => by
    show ((w.drewN q).heap ++ os)[i]? = _
    rw [Array.getElem?_append_left (by exact hi)]
    rfl⟩
theorem cell_gro {w : World} {a : Addr} {v : Value} (h : w.cell? a = some v) (nq : Nat) (os : Array Obj) : (Go.Sort.grow (w.drewN nq) os).cell? a = some v := by
  rw [(below_gr w nq os).cell (World.block_lt_of_cell? _ _ h), h]
theorem ext_take (l : Str) (m : Nat) : (⟨l.toArray⟩ : ByteArray).extract 0 m = ⟨(l.take m).toArray⟩ := by
  apply ByteArray.ext
  simp [ByteArray.data_extract]
set_option maxRecDepth 100000 in
set_option maxHeartbeats 6400000 in
theorem diskKeeps_walk (w : World) (v : Value) (ol : List OpM) (h : OpR w v ol) (part : Int) (hp1 : -9223372036854775808 ≤ part) (hp2 : part ≤ 9223372036854775807) : Calls Try.prog 4 #[v, .int .i64 part] w fun e w' => e = .returned (.bool true) ∧ Below w.heap.size w w' := by
  have mixed : Try.prog.follows .mixedOrders = true := by kernel_rfl
  have HOK : Hid (∀ o ∈ ol, o.Ok w) := h.ok
  obtain ⟨va, vc, rfl, hvc1, hvc2, hcs⟩ := h.ex
  obtain ⟨n, hn⟩ : ∃ n, n = ol.length := ⟨_, rfl⟩
  rw [← hn] at hvc1
  rw [← hn]
  have HCS : Hid (0 < ol.length → ∃ b off, va = some ⟨b, off, none⟩ ∧ ∀ i (hi : i < ol.length) c u, (ol[i]).cs[c]? = some u → w.cell? ⟨b, off + (i * 5 + c), none⟩ = some u) := hcs
  have HN : Hid (n = ol.length) := hn
  unfold maxLen at hvc2
  clear h hn hcs
  go_enter Try.func4, Try.ntmps4
  go_wp2_with fail
  refine (awake_any w).mono ?_
  rintro e w1 ⟨rfl, b1⟩
  have kN := new_ld w w1 b1
  clear b1
  go_wp2_with fail
  refine kN.mono ?_
  rintro e w2 ⟨rfl, h2⟩
  obtain ⟨d, hd⟩ : ∃ d, d = w1.heap.size := ⟨_, rfl⟩
  rw [← hd] at h2
  rw [← hd]
  have H2 : Hid (LD w w2 d (fun i => i = d) 0 st0) := h2
  clear h2 hd kN
  go_wp2_with fail
  have HP0 : Hid (Pl w (w2.alloc (.cells #[.slice none 0 0, .slice none 0 0, .slice none 0 0] 41)) w2.heap.size d 0 [] st0) := Pl.start H2.out (bk_new w2) ((Below.refl _ _).alloc (Nat.le_refl _) _) (fun i hi => by rw [hi]; exact Nat.le_refl _)
  obtain ⟨bk, hbk⟩ : ∃ b, b = w2.heap.size := ⟨_, rfl⟩
  rw [← hbk] at HP0
  rw [← hbk]
  clear hbk H2
  go_loopg [8, 9] n (fun kx v8 _ wr => ∃ (i : Nat) (E : List Fl) (s : St), v8 = .int .i64 (i : Int) ∧ i ≤ n ∧ i ≤ 80 ∧ n - i ≤ kx ∧ Hid (Pl w wr bk d i E s))
  case atStart => exact ⟨0, _, _, rfl, Nat.zero_le _, Nat.zero_le _, Nat.le_refl _, HP0⟩
  case round =>
    obtain ⟨i, E, s, rfl, hi, hiL, hkx, HP⟩ := hrel
    clear HP0
    by_cases hlt : i < n ∧ i < 80
    · have hltz : (i : Int) < (n : Int) := by omega
      have hLz : (i : Int) < 80 := by omega
      have hil : i < ol.length := by have := HN.out; omega
      obtain ⟨vb, vo, rfl, hcs⟩ := HCS.out (by omega)
      have hbel := HP.out.bel
      have hcell : ∀ c u, (ol[i]).cs[c]? = some u → wr.cell? ⟨vb, vo + i * 5 + c, none⟩ = some u := fun c u hu => by
        have h0 := hcs i hil c u hu
        rw [Nat.add_assoc]
        exact (hbel.cell (World.block_lt_of_cell? _ _ h0)).trans h0
      have hok := HOK.out _ (List.getElem_mem hil)
      obtain ⟨o, ho⟩ : ∃ o, o = ol[i] := ⟨_, rfl⟩
      rw [← ho] at hok hcell
      have kT := note_pl w wr bk d i E s o HP.out (by omega) hok
      have c0 := hcell 0 _ rfl
      have c1 := hcell 1 _ rfl
      have c2 := hcell 2 _ rfl
      have c3 := hcell 3 _ rfl
      have c4 := hcell 4 _ rfl
      simp only [Nat.add_zero] at c0
      have hw1 : wrap64 ((i : Int) + 1) = (i : Int) + 1 := by rw [← IntWalk.i64_left, IntKind.wrap_i64]; omega
      clear hcs hbel hcell ho hok hil
      go_wp2_with fail
      refine kT.mono ?_
      rintro e w3 ⟨rfl, E3, s3, p3⟩
      have HP3 : Hid _ := p3
      clear kT p3
      go_wp2_with fail
      go_roundg (n - (i + 1))
      case measure => omega
      case rel => exact ⟨i + 1, E3, s3, by go_num, by omega, by omega, Nat.le_refl _, HP3⟩
    · have hcas : ((i : Int) < (n : Int) ∧ ¬ (i : Int) < 80) ∨ ¬ (i : Int) < (n : Int) := by omega
      clear hlt HCS HOK
      obtain ⟨⟨G, F, hB, hD, hap, hG, hF⟩, bel, pm, nms, off, set, ops⟩ := HP.out
      have kC := cut_any wr d (i * 1048576) F s part hD
      have HB : Hid (Bk wr bk G E) := hB
      have HAP : Hid (∀ i, G i → ¬ F i) := hap
      have HGF : Hid ((∀ i, G i → w.heap.size ≤ i) ∧ ∀ i, F i → w.heap.size ≤ i) := ⟨hG, hF⟩
      have HBEL : Hid _ := bel
      have HPM : Hid (E.Perm s.fs) := pm
      have HNM : Hid (Nms s.fs) := nms
      have HOFF : Hid (s.off = false) := off
      have HSY : Hid (∀ f ∈ s.fs, f.sy ≤ f.bs.length ∧ f.bs.length ≤ i * 1048576) := fun f hf => ⟨hD.sync f hf, hD.len f hf⟩
      clear hB hD hap hG hF bel pm nms off set ops HP
      rcases hcas with ⟨hA, hB'⟩ | hA
      all_goals
        go_wp2_with fail
        refine kC.mono ?_
        rintro e w4 ⟨rfl, d4, f4⟩
        have kO := off_any w4 d _ F (s.cut part) d4
        rw [(cut_fs HOFF.out part).2.1] at kO
        have kn := on_any w4 d _ F (s.cut part) d4
        have HF4 : Hid (Fr F wr w4) := f4
        clear kC d4 f4
        go_wp2_with fail
        refine kO.mono ?_
        rintro e w4' ⟨rfl, rfl⟩
        clear kO
        go_wp2_with fail
        refine kn.mono ?_
        rintro e w5 ⟨rfl, d5, f5⟩
        have kL := list_any w5 d _ F (s.cut part).on [] d5
        have HD5 : Hid (Dk w5 d F (i * 1048576) (s.cut part).on) := d5
        have HF5 : Hid (Fr F wr w5) := HF4.out.trans f5 fun _ _ h => h
        clear kn d5 f5 HF4
        go_wp2_with fail
        refine kL.mono ?_
        rintro e w6 ⟨lv, rfl, o6, -, b6⟩
        have HBE6 : Hid (Below w.heap.size w w6) := HBEL.out.trans (((HF5.out.below HBEL.out.size HGF.out.2).trans (b6.mono (Nat.le_trans HBEL.out.size HF5.out.size))))
        have HD6 : Hid (Dk w6 d F (i * 1048576) (s.cut part).on) := HD5.out.below b6
        have hB6 : Bk w6 bk G E := (HB.out.other HF5.out HAP.out).below b6
        have hln : (sv (lstN (s.cut part).on [])).length = E.length := by
          rw [sv_length, lst_len rfl]
          show (s.cut part).fs.length = _
          rw [(cut_fs HOFF.out part).1, List.length_map]
          exact HPM.out.length_eq.symm
        obtain ⟨la, lc, hlv, -⟩ := o6.rds
        rw [hln] at hlv
        subst hlv
        obtain ⟨nv, bv', yv, hv⟩ := hB6
        obtain ⟨na, nc, hnv⟩ := hv.n.sl
        obtain ⟨ba, bc, hbv⟩ := hv.bb.sl
        obtain ⟨ya, yc, hyv⟩ := hv.y.sl
        simp only [sv_length, iv_length, List.length_map] at hnv hbv hyv
        subst hnv hbv hyv
        have HV : Hid _ := hv
        have cb0 := hv.x.cell 0 _ rfl
        have hfew := hv.few
        clear kL o6 b6 hln hv HB HD5
        go_wp2_with fail
        clear cb0
        go_loopg [12, 13, 14, 15] E.length (fun kx v12 _ _ _ wq => ∃ (k : Nat), v12 = .int .i64 (k : Int) ∧ k ≤ E.length ∧ E.length - k ≤ kx ∧ Hid (Below w6.heap.size w6 wq))
        case atStart => exact ⟨0, rfl, Nat.zero_le _, Nat.le_refl _, Below.refl _ _⟩
        case round =>
          rename World => wq
          obtain ⟨k, rfl, hk, hkx, HBQ⟩ := hrel
          have hvq := BkV.frame HV.out HBQ.out.size fun i hi => HBQ.out.block i (HV.out.lt i hi)
          have cb0 := hvq.x.cell 0 _ rfl
          by_cases hkl : k < E.length
          · have hklz : (k : Int) < (E.length : Int) := by omega
            obtain ⟨f, hf⟩ : ∃ f, E[k]? = some f := ⟨E[k], List.getElem?_eq_getElem hkl⟩
            obtain ⟨g1, c1, hv1, r1, -, k1, m1⟩ := hvq.n.get (i := k) (u := .string ⟨f.nm.toArray⟩) (by simp [sv, hf])
            obtain ⟨g2, c2, hv2, r2, -, k2, m2⟩ := hvq.bb.get (i := k) (u := .string ⟨f.bs.toArray⟩) (by simp [sv, hf])
            obtain ⟨g3, c3, hv3, r3, -, k3, m3⟩ := hvq.y.get (i := k) (u := .int .i64 (f.sy : Int)) (by simp [iv, hf])
            simp only [Value.slice.injEq] at hv1 hv2 hv3
            obtain ⟨rfl, -, rfl⟩ := hv1
            obtain ⟨rfl, -, rfl⟩ := hv2
            obtain ⟨rfl, -, rfl⟩ := hv3
            have cb1 := hvq.x.cell 1 _ rfl
            have cb2 := hvq.x.cell 2 _ rfl
            have hfm : f ∈ s.fs := HPM.out.mem_iff.1 (List.mem_of_getElem? hf)
            obtain ⟨hsy, hbl⟩ := HSY.out f hfm
            have kR := read_any wq d _ F (s.cut part).on f.nm (HD6.out.below HBQ.out) (nm_ok HNM.out hfm).2 (by omega)
            rw [(cut_read HOFF.out HNM.out part hfm).1, (cut_read HOFF.out HNM.out part hfm).2] at kR
            have hcut := sub_to (part := part) hsy
            obtain ⟨fn, fb, fs⟩ := f
            simp only at r1 r2 r3 hsy hbl kR hcut
            obtain ⟨len, hlen⟩ : ∃ len, len = fb.length := ⟨_, rfl⟩
            have hsz : (⟨fb.toArray⟩ : ByteArray).size = len := by rw [str_size, hlen]
            obtain ⟨m, hm⟩ : ∃ m, m = cutK part fb.length fs := ⟨_, rfl⟩
            rw [← hm] at kR hcut
            rw [← hlen] at hsy hbl hcut
            have hmle : m ≤ len := by rw [hm, hlen]; unfold cutK; omega
            have hw1 : wrap64 ((k : Int) + 1) = (k : Int) + 1 := by rw [← IntWalk.i64_left, IntKind.wrap_i64]; omega
            have hw2 : wrap64 ((len : Int) - (fs : Int)) = (len : Int) - (fs : Int) := by rw [← IntWalk.i64_left, IntKind.wrap_i64]; omega
            have hex := ext_take fb m
            obtain ⟨tk, htk⟩ : ∃ tk, tk = fb.take m := ⟨_, rfl⟩
            rw [← htk] at hex kR
            clear htk
            have hmz : (0 : Int) ≤ (m : Int) := by omega
            have hmz2 : (m : Int) ≤ (len : Int) := by omega
            have HLEN : Hid (len = fb.length) := hlen
            clear hm hlen hvq hf hfm
            by_cases hps : part < (len : Int) - (fs : Int)
            · have hm2 := hcut.1 hps
              clear hcut
              go_wp2_with fail
              rw [← hm2]
              clear hm2 hps
              refine kR.mono ?_
              rintro e w7 ⟨v7, rfl, o7, b7⟩
              have HB7 : Hid (Below w6.heap.size w6 w7) := HBQ.out.trans (b7.mono HBQ.out.size)
              have hr7 := o7.reads
              obtain ⟨ra, rc, hrv, -⟩ := hr7
              have zcv := fun nq os => conv_string (Go.Sort.grow (w7.drewN nq) os) v7 _ (o7.reads.below (below_gr w7 nq os))
              have hcb1 : w7.cell? _ = _ := (b7.cell (World.block_lt_of_cell? _ _ cb1)).trans cb1
              have hr2 : w7.cell? _ = _ := (b7.cell (World.block_lt_of_cell? _ _ r2)).trans r2
              have zb := fun nq os => cell_gro hcb1 nq os
              have zr := fun nq os => cell_gro hr2 nq os
              subst hrv
              clear kR o7 b7 cb0 cb1 cb2 r1 r2 r3 hcb1 hr2
              go_wp2_with fail
              refine wp_region_quiet_grown (by assumption) (by kernel_rfl) ?_
              repeat (go_big_quiet_step (fail))
              refine wpQuiet_nil ?_
              intro T hw'
              obtain ⟨⟨nq, osq⟩, hw''⟩ := hw'
              have HBT : Hid (Below w6.heap.size w6 T) := by apply hide; rw [hw'']; exact HB7.out.trans ((below_gr w7 nq osq).mono HB7.out.size)
              clear hw'' zb zr zcv hex hw2 hmz hmz2 hsz hmle hsy hbl hfew
              go_wp2_with fail
              go_roundg (E.length - (k + 1))
              case measure => exact Nat.lt_of_lt_of_le (Nat.sub_lt_sub_left hkl (Nat.lt_succ_self k)) hkx
              case rel => exact ⟨k + 1, by rw [hw1]; rfl, hkl, Nat.le_refl _, HBT⟩
            · have hm2 := hcut.2 hps
              subst hm2
              clear hcut
              go_wp2_with fail
              refine kR.mono ?_
              rintro e w7 ⟨v7, rfl, o7, b7⟩
              have HB7 : Hid (Below w6.heap.size w6 w7) := HBQ.out.trans (b7.mono HBQ.out.size)
              have hr7 := o7.reads
              obtain ⟨ra, rc, hrv, -⟩ := hr7
              have zcv := fun nq os => conv_string (Go.Sort.grow (w7.drewN nq) os) v7 _ (o7.reads.below (below_gr w7 nq os))
              have hcb1 : w7.cell? _ = _ := (b7.cell (World.block_lt_of_cell? _ _ cb1)).trans cb1
              have hr2 : w7.cell? _ = _ := (b7.cell (World.block_lt_of_cell? _ _ r2)).trans r2
              have zb := fun nq os => cell_gro hcb1 nq os
              have zr := fun nq os => cell_gro hr2 nq os
              subst hrv
              clear kR o7 b7 cb0 cb1 cb2 r1 r2 r3 hcb1 hr2
              go_wp2_with fail
              refine wp_region_quiet_grown (by assumption) (by kernel_rfl) ?_
              repeat (go_big_quiet_step (fail))
              refine wpQuiet_nil ?_
              intro T hw'
              obtain ⟨⟨nq, osq⟩, hw''⟩ := hw'
              have HBT : Hid (Below w6.heap.size w6 T) := by apply hide; rw [hw'']; exact HB7.out.trans ((below_gr w7 nq osq).mono HB7.out.size)
              clear hw'' zb zr zcv hex hw2 hmz hmz2 hsz hmle hsy hbl hfew
              go_wp2_with fail
              go_roundg (E.length - (k + 1))
              case measure => exact Nat.lt_of_lt_of_le (Nat.sub_lt_sub_left hkl (Nat.lt_succ_self k)) hkx
              case rel => exact ⟨k + 1, by rw [hw1]; rfl, hkl, Nat.le_refl _, HBT⟩
          · have hklz : ¬ (k : Int) < (E.length : Int) := by omega
            clear hvq
            go_wp2_with fail
            go_ret
            exact ⟨rfl, HBE6.out.trans (HBQ.out.mono HBE6.out.size)⟩
end Go.Proofs.Ytdcoeebpknipdaa
