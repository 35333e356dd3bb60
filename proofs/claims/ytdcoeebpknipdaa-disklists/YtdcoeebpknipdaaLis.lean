/- The walk of DiskLists. -/
import Derived.Test.YtdcoeebpknipdaaLisM
import Derived.BigQuiet
import Derived.Deep.QuietTactic
import Derived.RegionTactic
import Derived.Laws.Cover1
import Derived.Sort.Walk0
import Derived.Shelf.SlSortCmp.QuietGrown
namespace Go.Proofs.Ytdcoeebpknipdaa
open Go.RowKit Go.Maps
set_option linter.unusedVariables false

theorem own_keep {w w' : World} {base e n : Nat} {v : Value} {xs : List Value} (h : w.ownsRow base e 1 v n xs) (hb : ∀ r, v.ownBlock = some r → w'.heap[r]? = w.heap[r]?) : w'.ownsRow base e 1 v n xs := by
  refine ⟨h.1, ?_⟩
  rcases h.2 with h2 | ⟨g, cap, cur, h1, h2, h3, h4⟩
  · exact .inl h2
  · refine .inr ⟨g, cap, cur, h1, h2, ?_, h4⟩
    rw [hb g (by rw [h1]; rfl)]
    exact h3
theorem below_gr (w : World) (q : Nat) (os : Array Obj) : Below w.heap.size w (Go.Sort.grow (w.drewN q) os) :=
  ⟨rfl, rfl, rfl, by simp [Go.Sort.grow], fun i hi => by
    show ((w.drewN q).heap ++ os)[i]? = _
    rw [Array.getElem?_append_left (by show i < w.heap.size; omega)]
    rfl⟩
theorem cell_gro {w : World} {a : Addr} {v : Value} (h : w.cell? a = some v) (nq : Nat) (os : Array Obj) : (Go.Sort.grow (w.drewN nq) os).cell? a = some v := by
  rw [(below_gr w nq os).cell (World.block_lt_of_cell? _ _ h), h]
theorem begins_gro (w : World) (nq : Nat) (os : Array Obj) {t p : Str} {b : Bool} (ht : t.length ≤ maxLen) (hp : p.length ≤ maxLen) (hb : Lib.hasPrefix t p = b) : Calls Try.prog 29 #[.string ⟨t.toArray⟩, .string ⟨p.toArray⟩] (Go.Sort.grow (w.drewN nq) os) fun e w' => e = .returned (.bool b) ∧ ∃ q os', w' = Go.Sort.grow ((Go.Sort.grow (w.drewN nq) os).drewN q) os' := by
  refine (refbegins_any _ t p ht hp).mono ?_
  rintro e w' ⟨rfl, rfl⟩
  rw [hb]
  exact ⟨rfl, 0, #[], by rw [Go.Sort.grow_empty]; rfl⟩
theorem Rds.sl {w : World} {v : Value} {xs : List Value} (h : Rds w v xs) : ∃ a n c, v = .slice a n c := by
  obtain ⟨a, c, e, _⟩ := h
  exact ⟨_, _, _, e⟩
set_option maxRecDepth 100000 in
set_option maxHeartbeats 6400000 in
theorem lists_walk (w : World) (v : Value) (ts : List Str) (h : Rds w v (sv ts)) (hbig : ts.length * 16 ≤ 140737488351232) (hts : ∀ t ∈ ts, t.length ≤ maxLen) (p : Str) (hp : p.length ≤ 140737488351232) :
    Calls Try.prog 8 #[v, .string ⟨p.toArray⟩] w fun e w' => e = .returned (.bool true) ∧ Below w.heap.size w w' := by
  obtain ⟨i0, hi0, hz0, hz1, hz2⟩ := info_parts Try.info_str
  have mixed : Try.prog.follows .mixedOrders = true := by kernel_rfl
  obtain ⟨va, n, vc, rfl⟩ := h.sl
  have HV : Hid (Rds w (.slice va n vc) (sv ts)) := h
  have hn : n = ts.length := by rw [h.cells.1, sv_length]
  have hvc : n ≤ vc ∧ vc ≤ maxLen := ⟨by rw [h.cells.1]; exact h.cells.2.1, h.cells.2.2.1⟩
  obtain ⟨hvc1, hvc2⟩ := hvc
  unfold maxLen at hvc2
  have HN : Hid (n = ts.length) := hn
  have HTS : Hid _ := hts
  clear h hn hts hbig
  go_enter Try.func8, Try.ntmps8
  go_wp2_with fail
  refine (awake_any w).mono ?_
  rintro e w1 ⟨rfl, b1⟩
  have kN := new_ld w w1 b1
  clear b1
  go_wp2_with fail
  refine kN.mono ?_
  rintro e w2 ⟨rfl, h2⟩
  obtain ⟨d, hd⟩ : ∃ d, d = w1.heap.size := ⟨_, rfl⟩
  rw [← hd] at h2
  rw [← hd]
  have H2 : Hid (LD w w2 d (fun i => i = d) 0 st0) := h2
  clear h2 hd kN
  go_wp2_with fail
  go_loopg [7, 8, 9] n (fun kx v7 v8 _ wr => ∃ (i : Nat) (x7 : Value) (good : List Str) (F : Nat → Prop) (s : St), x7 = v7 ∧ v8 = .int .i64 (i : Int) ∧ i ≤ n ∧ i ≤ 60 ∧ n - i ≤ kx ∧ Hid (LD w wr d F 0 s) ∧ Hid (Ls s good i) ∧ Hid (wr.ownsRow w.heap.size 9 1 x7 good.length (sv good)) ∧ Hid (∀ r, x7.ownBlock = some r → ¬ F r) ∧ Hid (∀ t ∈ good, t.length ≤ maxLen))
  case atStart => exact ⟨0, _, [], _, _, rfl, rfl, Nat.zero_le _, Nat.zero_le _, Nat.le_refl _, H2, Ls.zero, ⟨rfl, .inl ⟨rfl, rfl⟩⟩, (fun r hr => by cases hr), fun t ht => by cases ht⟩
  case round =>
    obtain ⟨i, x7, good, F, s, rfl, rfl, hi, hi6, hkx, HL, HLs, HA, HAP, HGL⟩ := hrel
    clear H2
    by_cases hlt : i < n ∧ i < 60
    · have hltz : (i : Int) < (n : Int) := by omega
      have h60z : (i : Int) < 60 := by omega
      have hil : i < ts.length := by have := HN.out; omega
      obtain ⟨vb, vo, rfl, hcs⟩ := HV.out.cells.2.2.2 (by rw [sv_length]; omega)
      have hc0 := hcs i _ (sv_get ts i hil)
      have hc : wr.cell? ⟨vb, vo + i, none⟩ = _ := (HL.out.bel.cell (World.block_lt_of_cell? _ _ hc0)).trans hc0
      have htl : (ts.getD i []).length ≤ maxLen := HTS.out _ (by rw [List.getD_eq_getElem?_getD, List.getElem?_eq_getElem hil]; exact List.getElem_mem hil)
      obtain ⟨t, ht⟩ : ∃ t, t = ts.getD i [] := ⟨_, rfl⟩
      rw [← ht] at hc htl
      have HTL : Hid _ := htl
      have kA := append_ld w wr d 0 F s t (.slice none 0 0) [] HL.out htl (Reads.nil _) (fun ad n c e => by cases e) (by simp) (by have := HLs.out.ops; omega)
      have HVB : Hid (∀ wx, Below w.heap.size w wx → wx.cell? ⟨vb, vo + i, none⟩ = some (.string ⟨t.toArray⟩)) := fun wx hb => by rw [hb.cell (World.block_lt_of_cell? _ _ hc0), hc0, ht]
      clear hc0 hcs ht htl hil
      have hw1 : wrap64 ((i : Int) + 1) = (i : Int) + 1 := by rw [← IntWalk.i64_left, IntKind.wrap_i64]; omega
      have hgl : good.length ≤ 60 := Nat.le_trans HLs.out.gl hi6
      by_cases hnm : isNm t = true
      · rw [(HLs.out.good hnm hlt.2).1] at kA
        have HL3 : Hid _ := (HLs.out.good hnm hlt.2).2
        clear hnm
        go_wp2_with fail
        refine kA.mono ?_
        rintro e w3 ⟨rfl, F3, h3, hF3, fr3⟩
        have hc3 := HVB.out w3 h3.bel
        have ho3 : w3.ownsRow w.heap.size 9 1 x7 good.length (sv good) := own_keep HA.out fun r hr => fr3.block r (own_lt HA.out r hr).2 (HAP.out r hr)
        have HAP3 : Hid (∀ r, x7.ownBlock = some r → ¬ F3 r) := fun r hr hf => (hF3 r hf).elim (HAP.out r hr) fun q => by have := (own_lt HA.out r hr).2; omega
        have H3 : Hid _ := h3
        have HO3 : Hid _ := ho3
        have HLO : Hid (RdsK 1 (w3.alloc (.cells #[Value.string ⟨t.toArray⟩] 9)) (.slice (some ⟨w3.heap.size, 0, none⟩) 1 1) 1 [Value.string ⟨t.toArray⟩]) := RdsK.of_own (lit_own w3 [Value.string ⟨t.toArray⟩] 9 (by simp [maxLen]))
        have HAO : Hid ((w3.alloc (.cells #[Value.string ⟨t.toArray⟩] 9)).ownsRow w.heap.size 9 1 x7 good.length (sv good)) := World.ownsRow.alloc ho3 _
        have hsz1 : w.heap.size ≤ w3.heap.size := h3.bel.size
        clear kA h3 hF3 fr3 ho3 hc
        go_wp2_with (first | (at_builtin; refine wpList_appF rfl _ _ 38 rfl w.heap.size 9 i0 (.string ⟨#[]⟩) 1 16 Try.underlying38 hi0 hz0 hz1 hz2 rfl (by decide) x7 good.length (sv good) rfl HAO.out (.slice (some ⟨w3.heap.size, 0, none⟩) 1 1) 1 [Value.string ⟨t.toArray⟩] rfl HLO.out (fun u hu => by simp at hu; subst hu; rfl) (by unfold maxLen; omega) (by omega) (Nat.le_trans hsz1 (by simp)) ?_; intro v4 w4 o4 g4 fr4; have H4 : Hid (w4.ownsRow w.heap.size 9 1 v4 (good.length + 1) (sv good ++ [Value.string ⟨t.toArray⟩]) ∧ (w3.alloc (.cells #[Value.string ⟨t.toArray⟩] 9)).grownBy w4 x7.ownBlock) := ⟨o4, g4⟩; have HFR : Hid _ := fr4; clear o4 g4 fr4))
        go_wp2_with fail
        obtain ⟨o4, g4⟩ := H4.out
        have gA : w3.grownBy w4 x7.ownBlock := grown_trans (grown_alloc _ _ _) g4
        go_roundg (n - (i + 1))
        case measure => omega
        case rel =>
          refine ⟨i + 1, v4, good ++ [t], F3, _, rfl, by go_num, by omega, by omega, Nat.le_refl _, ?_, HL3, ?_, ?_, ?_⟩
          · exact ⟨H3.out.dk.other (Fr.of_grown (F := fun i => x7.ownBlock = some i) gA fun j hj => .inl hj) fun i hi hr => HAP3.out i hr hi, H3.out.F0, H3.out.bel.trans ⟨gA.os, gA.tape, gA.output, gA.size, fun i hi => gA.block i (Nat.lt_of_lt_of_le hi hsz1) fun q => by have := (own_lt HO3.out i q.symm).1; omega⟩⟩
          · apply hide
            rw [sv_append, List.length_append]
            exact o4
          · intro r hr hf
            rcases HFR.out with q | ⟨g, q, hg⟩
            · exact HAP3.out r (q ▸ hr) hf
            · rw [q] at hr
              cases hr
              have := H3.out.dk.lt r hf
              simp at hg
              omega
          · intro u hu
            rw [List.mem_append, List.mem_singleton] at hu
            exact hu.elim (HGL.out u) fun e => e ▸ HTL.out
      · have hnm : isNm t = false := by simpa using hnm
        rw [app_bad HLs.out.off hnm] at kA
        clear hnm
        go_wp2_with fail
        refine kA.mono ?_
        rintro e w3 ⟨rfl, F3, h3, hF3, fr3⟩
        have ho3 : w3.ownsRow w.heap.size 9 1 x7 good.length (sv good) := own_keep HA.out fun r hr => fr3.block r (own_lt HA.out r hr).2 (HAP.out r hr)
        have HAP3 : Hid (∀ r, x7.ownBlock = some r → ¬ F3 r) := fun r hr hf => (hF3 r hf).elim (HAP.out r hr) fun q => by have := (own_lt HA.out r hr).2; omega
        have H3 : Hid _ := h3
        have HO3 : Hid _ := ho3
        clear kA h3 hF3 fr3 ho3 hc
        go_wp2_with fail
        go_roundg (n - (i + 1))
        case measure => omega
        case rel => exact ⟨i + 1, x7, good, F3, s, rfl, by go_num, by omega, by omega, Nat.le_refl _, H3, HLs.out.bad, HO3, HAP3, HGL⟩
    · have hcas : ((i : Int) < (n : Int) ∧ ¬ (i : Int) < 60) ∨ ¬ (i : Int) < (n : Int) := by omega
      have kL := list_any wr d 0 F s p HL.out.dk
      rcases hcas with ⟨hA, hB⟩ | hA
      all_goals
       go_wp2_with fail
       refine kL.mono ?_
       rintro e w4 ⟨lv, rfl, o4, -, b4⟩
       have HB4 : Hid (Below w.heap.size w w4) := HL.out.bel.trans (b4.mono HL.out.bel.size)
       obtain ⟨l, hl⟩ : ∃ l, l = lstN s p := ⟨_, rfl⟩
       have hll := HLs.out.ll HL.out.dk p
       rw [← hl] at hll o4
       have HLL : Hid (LL l good p) := hll
       have rL := o4.rds
       have rG : Rds w4 x7 (sv good) := (Own.rds (e := 9) (base := w.heap.size) (by unfold Own; rw [sv_length]; exact HA.out)).below b4
       obtain ⟨la, ln, lc, rfl⟩ := rL.sl
       obtain ⟨ga, gn, gc, rfl⟩ := rG.sl
       have HRL : Hid (Rds w4 (.slice la ln lc) (sv l)) := rL
       have HRG : Hid (Rds w4 (.slice ga gn gc) (sv good)) := rG
       have HLN : Hid (ln = l.length) := by apply hide; rw [rL.cells.1, sv_length]
       have HGN : Hid (gn = good.length) := by apply hide; rw [rG.cells.1, sv_length]
       have hlc1 : ln ≤ lc := by rw [rL.cells.1]; exact rL.cells.2.1
       have hlc2 := rL.cells.2.2.1
       have hgc1 : gn ≤ gc := by rw [rG.cells.1]; exact rG.cells.2.1
       have hgc2 := rG.cells.2.2.1
       unfold maxLen at hlc2 hgc2
       clear kL hl hll o4 b4 rL rG HA HAP hA hi hi6 hkx hlt HL HLs HV HN HTS hvc1 hvc2
       try clear hB
       go_wp2_with fail
       go_loopg [11, 12, 13] ln (fun kx v11 _ _ wr => ∃ (i : Nat), v11 = .int .i64 (i : Int) ∧ i ≤ ln ∧ ln - i ≤ kx ∧ Hid (Below w4.heap.size w4 wr))
       case atStart => exact ⟨0, rfl, Nat.zero_le _, Nat.le_refl _, Below.refl _ _⟩
       case round =>
        rename World => wo
        obtain ⟨i, rfl, hi, hkx, HB⟩ := hrel
        by_cases hlt : i < ln
        · have hltz : (i : Int) < (ln : Int) := by omega
          have hil : i < l.length := by have := HLN.out; omega
          obtain ⟨lb, lo, rfl, hcs⟩ := HRL.out.cells.2.2.2 (by rw [sv_length]; omega)
          have HC : Hid (∀ wx, Below w4.heap.size w4 wx → ∀ j (hj : j < l.length), wx.cell? ⟨lb, lo + j, none⟩ = some (.string ⟨l[j].toArray⟩)) := fun wx hb j hj => by
            have h0 := hcs j _ (sv_get l j hj)
            rw [hb.cell (World.block_lt_of_cell? _ _ h0), h0]
            simp [hj]
          obtain ⟨t, ht⟩ : ∃ t, t = l[i] := ⟨_, rfl⟩
          have htm : t ∈ l := by rw [ht]; exact List.getElem_mem hil
          have HTA : Hid _ := HLL.out.a t htm
          have HT : Hid (t = l[i]) := ht
          clear ht hcs htm
          go_wp2_with fail
          go_loopg [12, 13] gn (fun kx v12 v13 wr => ∃ (k : Nat) (th : Bool), v13 = .int .i64 (k : Int) ∧ v12 = .bool th ∧ k ≤ gn ∧ gn - k ≤ kx ∧ Hid (th = true ↔ t ∈ good.take k) ∧ Hid (Below w4.heap.size w4 wr))
          case atStart => exact ⟨0, false, rfl, rfl, Nat.zero_le _, Nat.le_refl _, by apply hide; simp, HB⟩
          case round =>
            rename World => wr
            obtain ⟨k, th, rfl, rfl, hk, hkx2, HTH, HB2⟩ := hrel
            have hci := HC.out wr HB2.out i hil
            rw [← HT.out] at hci
            by_cases hkl : k < gn
            · have hklz : (k : Int) < (gn : Int) := by omega
              have hkg : k < good.length := by have := HGN.out; omega
              obtain ⟨gb, go, rfl, gcs⟩ := HRG.out.cells.2.2.2 (by rw [sv_length]; omega)
              have g0 := gcs k _ (sv_get good k hkg)
              have hgk : wr.cell? ⟨gb, go + k, none⟩ = some (.string ⟨(good.getD k []).toArray⟩) := (HB2.out.cell (World.block_lt_of_cell? _ _ g0)).trans g0
              obtain ⟨g, hg⟩ : ∃ g, g = good.getD k [] := ⟨_, rfl⟩
              rw [← hg] at hgk
              have HG : Hid (good.take (k + 1) = good.take k ++ [g]) := by
                apply hide
                rw [List.take_succ_eq_append_getElem hkg, hg]
                simp [hkg]
              clear g0 gcs hg hkg
              have zi := fun nq os => cell_gro hci nq os
              have zg := fun nq os => cell_gro hgk nq os
              clear hci hgk
              cases th
              case true =>
                go_wp2_with fail
                refine wp_region_quiet_grown (by assumption) (by kernel_rfl) ?_
                repeat (go_big_quiet_step (fail))
                refine wpQuiet_nil ?_
                intro T hw'
                obtain ⟨⟨nq, osq⟩, hw''⟩ := hw'
                have HBT : Hid (Below w4.heap.size w4 T) := by apply hide; rw [hw'']; exact HB2.out.trans ((below_gr wr nq osq).mono HB2.out.size)
                clear hw''
                go_wp2_with fail
                go_roundg (gn - (k + 1))
                case measure => omega
                case rel => exact ⟨k + 1, true, by go_num, rfl, by omega, Nat.le_refl _, by apply hide; rw [HG.out, List.mem_append]; exact ⟨fun _ => .inl (HTH.out.1 (by trivial)), fun _ => rfl⟩, HBT⟩
              case false =>
                by_cases he : g = t
                · have he2 : (g == t) = true := by simpa using he
                  have HEQ : Hid (g = t) := he
                  clear he
                  go_wp2_with fail
                  refine wp_region_quiet_grown (by assumption) (by kernel_rfl) ?_
                  repeat (go_big_quiet_step (fail))
                  refine wpQuiet_nil ?_
                  intro T hw'
                  obtain ⟨⟨nq, osq⟩, hw''⟩ := hw'
                  have HBT : Hid (Below w4.heap.size w4 T) := by apply hide; rw [hw'']; exact HB2.out.trans ((below_gr wr nq osq).mono HB2.out.size)
                  clear hw''
                  go_wp2_with fail
                  go_roundg (gn - (k + 1))
                  case measure => omega
                  case rel => exact ⟨k + 1, true, by go_num, rfl, by omega, Nat.le_refl _, by apply hide; rw [HG.out, List.mem_append, HEQ.out]; simp, HBT⟩
                · have he2 : (g == t) = false := by simpa using he
                  have HEQ : Hid (¬ g = t) := he
                  clear he
                  go_wp2_with fail
                  refine wp_region_quiet_grown (by assumption) (by kernel_rfl) ?_
                  repeat (go_big_quiet_step (fail))
                  refine wpQuiet_nil ?_
                  intro T hw'
                  obtain ⟨⟨nq, osq⟩, hw''⟩ := hw'
                  have HBT : Hid (Below w4.heap.size w4 T) := by apply hide; rw [hw'']; exact HB2.out.trans ((below_gr wr nq osq).mono HB2.out.size)
                  clear hw''
                  go_wp2_with fail
                  go_roundg (gn - (k + 1))
                  case measure => omega
                  case rel =>
                    refine ⟨k + 1, false, by go_num, rfl, by omega, Nat.le_refl _, ?_, HBT⟩
                    apply hide
                    rw [HG.out, List.mem_append, List.mem_singleton]
                    refine ⟨fun h => (by cases h), fun h => ?_⟩
                    rcases h with h | h
                    · exact absurd (HTH.out.2 h) (by simp)
                    · exact absurd h.symm HEQ.out
            · have hklz : ¬ (k : Int) < (gn : Int) := by omega
              have hth : th = true := HTH.out.2 (by rw [List.take_of_length_le (by have := HGN.out; omega)]; exact HTA.out.1)
              subst hth
              have kS := fun nq os => begins_gro wr nq os (b := true) (HGL.out t HTA.out.1) (Nat.le_trans hp (by decide)) HTA.out.2
              have zi := fun nq os => cell_gro hci nq os
              clear hci
              by_cases hi0 : i = 0
              · subst hi0
                have z0 : ∀ nq os, (Go.Sort.grow (wr.drewN nq) os).cell? ⟨lb, lo, none⟩ = some (.string ⟨t.toArray⟩) := fun nq os => by have := zi nq os; rw [Nat.add_zero] at this; exact this
                clear zi
                go_wp2_with fail
                refine wp_region_quiet_grown (by assumption) (by kernel_rfl) ?_
                repeat (go_big_quiet_step (first | (go_at_call 29; with_reducible refine Calls.grown_of (kS _ _))))
                refine wpQuiet_nil ?_
                intro T hw'
                obtain ⟨⟨nq, osq⟩, hw''⟩ := hw'
                have HBT : Hid (Below w4.heap.size w4 T) := by apply hide; rw [hw'']; exact HB2.out.trans ((below_gr wr nq osq).mono HB2.out.size)
                clear hw''
                go_wp2_with fail
                go_roundg (ln - (0 + 1))
                case measure => omega
                case rel => exact ⟨0 + 1, by go_num, by omega, Nat.le_refl _, HBT⟩
              · have hi0z : (0 : Int) < (i : Int) := by omega
                obtain ⟨m, rfl⟩ : ∃ m, i = m + 1 := ⟨i - 1, by omega⟩
                have hcm := HC.out wr HB2.out m (by omega)
                have hri := HLL.out.ri m hil
                rw [← HT.out] at hri
                obtain ⟨u, hu⟩ : ∃ u, u = l[m] := ⟨_, rfl⟩
                rw [← hu] at hcm hri
                have hbl : Op.bytesLess u t = true := by rw [Go.Proofs.bytesLess_eq]; exact decide_eq_true hri
                have hbl2 : Op.bytesLess (⟨u.toArray⟩ : ByteArray).toList (⟨t.toArray⟩ : ByteArray).toList = true := by rw [str_toList, str_toList]; exact hbl
                clear hu hri
                have zm := fun nq os => cell_gro hcm nq os
                clear hcm
                go_wp2_with fail
                refine wp_region_quiet_grown (by assumption) (by kernel_rfl) ?_
                repeat (go_big_quiet_step (first | (go_at_call 29; with_reducible refine Calls.grown_of (kS _ _))))
                refine wpQuiet_nil ?_
                intro T hw'
                obtain ⟨⟨nq, osq⟩, hw''⟩ := hw'
                have HBT : Hid (Below w4.heap.size w4 T) := by apply hide; rw [hw'']; exact HB2.out.trans ((below_gr wr nq osq).mono HB2.out.size)
                clear hw''
                go_wp2_with fail
                go_roundg (ln - (m + 1 + 1))
                case measure => omega
                case rel => exact ⟨m + 1 + 1, by go_num, by omega, Nat.le_refl _, HBT⟩
        · have hltz : ¬ (i : Int) < (ln : Int) := by omega
          clear hlt
          go_wp2_with fail
          clear hltz hi hkx
          go_loopg [14, 15, 16] gn (fun kx v14 _ _ wr => ∃ (k : Nat), v14 = .int .i64 (k : Int) ∧ k ≤ gn ∧ gn - k ≤ kx ∧ Hid (Below w4.heap.size w4 wr))
          case atStart => exact ⟨0, rfl, Nat.zero_le _, Nat.le_refl _, HB⟩
          case round =>
            rename World => wq
            clear HB
            obtain ⟨k, rfl, hk, hkx, HB⟩ := hrel
            by_cases hkl : k < gn
            · have hklz : (k : Int) < (gn : Int) := by omega
              have hkg : k < good.length := by have := HGN.out; omega
              obtain ⟨gb, go, rfl, gcs⟩ := HRG.out.cells.2.2.2 (by rw [sv_length]; omega)
              obtain ⟨g, hg⟩ : ∃ g, g = good.getD k [] := ⟨_, rfl⟩
              have HC : Hid (∀ wx, Below w4.heap.size w4 wx → wx.cell? ⟨gb, go + k, none⟩ = some (.string ⟨g.toArray⟩)) := fun wx hb => by
                have h0 := gcs k _ (sv_get good k hkg)
                rw [hb.cell (World.block_lt_of_cell? _ _ h0), h0, hg]
              have hgm : g ∈ good := by rw [hg, List.getD_eq_getElem?_getD, List.getElem?_eq_getElem hkg]; exact List.getElem_mem hkg
              have HGM : Hid _ := HLL.out.b g hgm
              have hgq := HC.out wq HB.out
              have kB := refbegins_any wq g p (HGL.out g hgm) (Nat.le_trans hp (by decide))
              obtain ⟨pb, hpb⟩ : ∃ pb, pb = Lib.hasPrefix g p := ⟨_, rfl⟩
              rw [← hpb] at kB
              have HPB : Hid (pb = Lib.hasPrefix g p) := hpb
              clear hg gcs hgm hpb hkg
              go_wp2_with fail
              refine kB.mono ?_
              rintro e wq2 ⟨rfl, rfl⟩
              clear kB hgq
              go_wp2_with fail
              go_loopg [15, 16] ln (fun kx v15 v16 wr => ∃ (i : Nat) (th : Bool), v16 = .int .i64 (i : Int) ∧ v15 = .bool th ∧ i ≤ ln ∧ ln - i ≤ kx ∧ Hid (th = true ↔ (pb = false ∨ g ∈ l.take i)) ∧ Hid (Below w4.heap.size w4 wr))
              case atStart => exact ⟨0, !pb, rfl, rfl, Nat.zero_le _, Nat.le_refl _, by apply hide; simp, HB⟩
              case round =>
                rename World => wr
                obtain ⟨i, th, rfl, rfl, hi, hix, HTH, HB2⟩ := hrel
                by_cases hil : i < ln
                · have hilz : (i : Int) < (ln : Int) := by omega
                  have hill : i < l.length := by have := HLN.out; omega
                  obtain ⟨lb, lo, rfl, lcs⟩ := HRL.out.cells.2.2.2 (by rw [sv_length]; omega)
                  have l0 := lcs i _ (sv_get l i hill)
                  have hci : wr.cell? ⟨lb, lo + i, none⟩ = some (.string ⟨(l.getD i []).toArray⟩) := (HB2.out.cell (World.block_lt_of_cell? _ _ l0)).trans l0
                  obtain ⟨t, ht⟩ : ∃ t, t = l.getD i [] := ⟨_, rfl⟩
                  rw [← ht] at hci
                  have HG : Hid (l.take (i + 1) = l.take i ++ [t]) := by
                    apply hide
                    rw [List.take_succ_eq_append_getElem hill, ht]
                    simp [hill]
                  have hgk := HC.out wr HB2.out
                  have zi := fun nq os => cell_gro hci nq os
                  have zg := fun nq os => cell_gro hgk nq os
                  clear hci hgk l0 lcs ht hill
                  cases th
                  case true =>
                    go_wp2_with fail
                    refine wp_region_quiet_grown (by assumption) (by kernel_rfl) ?_
                    repeat (go_big_quiet_step (fail))
                    refine wpQuiet_nil ?_
                    intro T hw'
                    obtain ⟨⟨nq, osq⟩, hw''⟩ := hw'
                    have HBT : Hid (Below w4.heap.size w4 T) := by apply hide; rw [hw'']; exact HB2.out.trans ((below_gr wr nq osq).mono HB2.out.size)
                    clear hw''
                    go_wp2_with fail
                    go_roundg (ln - (i + 1))
                    case measure => omega
                    case rel => exact ⟨i + 1, true, by go_num, rfl, by omega, Nat.le_refl _, by apply hide; rw [HG.out, List.mem_append]; exact ⟨fun _ => (HTH.out.1 (by trivial)).imp id Or.inl, fun _ => rfl⟩, HBT⟩
                  case false =>
                    by_cases he : g = t
                    · have he2 : (g == t) = true := by simpa using he
                      have HEQ : Hid (g = t) := he
                      clear he
                      go_wp2_with fail
                      refine wp_region_quiet_grown (by assumption) (by kernel_rfl) ?_
                      repeat (go_big_quiet_step (fail))
                      refine wpQuiet_nil ?_
                      intro T hw'
                      obtain ⟨⟨nq, osq⟩, hw''⟩ := hw'
                      have HBT : Hid (Below w4.heap.size w4 T) := by apply hide; rw [hw'']; exact HB2.out.trans ((below_gr wr nq osq).mono HB2.out.size)
                      clear hw''
                      go_wp2_with fail
                      go_roundg (ln - (i + 1))
                      case measure => omega
                      case rel => exact ⟨i + 1, true, by go_num, rfl, by omega, Nat.le_refl _, by apply hide; rw [HG.out, List.mem_append, HEQ.out]; simp, HBT⟩
                    · have he2 : (g == t) = false := by simpa using he
                      have HEQ : Hid (¬ g = t) := he
                      clear he
                      go_wp2_with fail
                      refine wp_region_quiet_grown (by assumption) (by kernel_rfl) ?_
                      repeat (go_big_quiet_step (fail))
                      refine wpQuiet_nil ?_
                      intro T hw'
                      obtain ⟨⟨nq, osq⟩, hw''⟩ := hw'
                      have HBT : Hid (Below w4.heap.size w4 T) := by apply hide; rw [hw'']; exact HB2.out.trans ((below_gr wr nq osq).mono HB2.out.size)
                      clear hw''
                      go_wp2_with fail
                      go_roundg (ln - (i + 1))
                      case measure => omega
                      case rel =>
                        refine ⟨i + 1, false, by go_num, rfl, by omega, Nat.le_refl _, ?_, HBT⟩
                        apply hide
                        rw [HG.out, List.mem_append, List.mem_singleton]
                        refine ⟨fun h => (by cases h), fun h => ?_⟩
                        rcases h with h | h | h
                        · exact absurd (HTH.out.2 (.inl h)) (by simp)
                        · exact absurd (HTH.out.2 (.inr h)) (by simp)
                        · exact absurd h HEQ.out
                · have hilz : ¬ (i : Int) < (ln : Int) := by omega
                  have hth : th = true := HTH.out.2 (by
                    rw [List.take_of_length_le (by have := HLN.out; omega)]
                    cases pb
                    · exact .inl rfl
                    · exact .inr (HGM.out HPB.out.symm))
                  subst hth
                  go_wp2_with fail
                  go_roundg (gn - (k + 1))
                  case measure => omega
                  case rel => exact ⟨k + 1, by go_num, by omega, Nat.le_refl _, HB2⟩
            · have hklz : ¬ (k : Int) < (gn : Int) := by omega
              go_wp2_with fail
              go_ret
              exact ⟨rfl, HB4.out.trans (HB.out.mono HB4.out.size)⟩
end Go.Proofs.Ytdcoeebpknipdaa
