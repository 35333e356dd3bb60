/- Contracts of the reference's blobs: List, Open. -/
import Derived.Test.YthegdhbmfojdaaaRb2
namespace Go.Proofs.Ythegdhbmfojdaaa
open Go.RowKit Go.Maps Go.Sort
set_option linter.unusedVariables false

theorem ext_two (t : Str) (n : Nat) (hn : n = t.length) : (⟨t.toArray⟩ : ByteArray).extract 2 n = ⟨(t.drop 2).toArray⟩ := by
  apply ByteArray.ext
  subst hn
  simp [ByteArray.data_extract]
  exact List.take_of_length_le (by simp)
theorem rls_pre {t : RSt} {p a : Str} (h : a ∈ rls t p) : Lib.hasPrefix a p = true ∧ ∃ f ∈ t.fs, f.nm = a := by
  unfold rls preN at h
  split at h
  · cases h
  · obtain ⟨f, hf, rfl⟩ := List.mem_map.1 h
    exact ⟨(List.mem_filter.1 hf).2, f, (List.mem_filter.1 hf).1, rfl⟩
theorem rls_few {t : RSt} (p : Str) : (rls t p).length ≤ t.fs.length := by
  unfold rls preN
  split
  · exact Nat.zero_le _
  · rw [List.length_map]
    exact List.length_filter_le _ _
theorem Rd.few {w : World} {r N : Nat} {G : Nat → Prop} {t : RSt} (h : Rd w r G N t) : t.fs.length ≤ 1000 := by
  obtain ⟨Lv, Z, hz⟩ := h
  rw [← hz.fs, List.length_map]
  exact hz.few
theorem pre_two {a : Str} (h : Lib.hasPrefix a [98, 46] = true) : 2 ≤ a.length := by
  match a, h with
  | [], h => simp [Lib.hasPrefix] at h
  | [_], h => simp [Lib.hasPrefix] at h
  | _ :: _ :: r, _ => simp
set_option maxRecDepth 100000 in
set_option maxHeartbeats 3200000 in
theorem reflistB_any (w : World) (r N : Nat) (G : Nat → Prop) (t : RSt) (h : Rd w r G N t) (hnm : ∀ f ∈ t.fs, f.nm.length ≤ 64) :
    Calls Try.prog 35 #[.pointer (some ⟨r, 0, none⟩)] w fun e w' => ∃ v, e = .returned v ∧ Own w' w.heap.size 9 v (sv (rlistB t)) ∧ Below w.heap.size w w' := by
  obtain ⟨i0, hi0, hi1, hi2, hi3⟩ := info_parts Try.info_str
  have kL := reflist_any w r N G t [98, 46] h (by simp [maxLen]) fun f hf => Nat.le_trans (hnm f hf) (by decide)
  have hlen : ∀ a ∈ rls t [98, 46], a.length ≤ 64 ∧ 2 ≤ a.length := fun a ha => by
    obtain ⟨h1, f, hf, e⟩ := rls_pre ha
    exact ⟨by rw [← e]; exact hnm f hf, pre_two h1⟩
  have hfew : (rls t [98, 46]).length ≤ 1000 := Nat.le_trans (rls_few _) h.few
  have HR : Hid (rlistB t = blN (rls t [98, 46])) := rfl
  obtain ⟨l, hl⟩ : ∃ l, l = rls t [98, 46] := ⟨_, rfl⟩
  rw [← hl] at kL hlen hfew HR
  have HLN : Hid (∀ a ∈ l, a.length ≤ 64 ∧ 2 ≤ a.length) := hlen
  clear h hl hlen hnm
  go_enter Try.func35, Try.ntmps35
  go_wp2_with fail
  refine kL.mono ?_
  rintro e w2 ⟨lv, rfl, o2, b2⟩
  obtain ⟨la, lc, hlv, hlc1, hlc2, -⟩ := o2.rds.len
  subst hlv
  have HO2 : Hid (Own w2 w.heap.size 9 (.slice la l.length lc) (sv l)) := o2
  have HB2 : Hid (Below w.heap.size w w2) := b2
  unfold maxLen at hlc2
  clear kL o2 b2
  go_wp2_with fail
  go_loopg [4, 5, 6] l.length (fun kx v4 v5 _ wr => ∃ (k : Nat) (acc : List Str) (x3 : Value), x3 = v4 ∧ v5 = .int .i64 (k : Int) ∧ k ≤ l.length ∧ l.length - k ≤ kx ∧ acc.length ≤ k ∧ Hid (acc = blN (l.take k)) ∧ Hid (wr.ownsRow w2.heap.size 9 1 x3 acc.length (sv acc)) ∧ Hid (Below w2.heap.size w2 wr))
  case atStart => exact ⟨0, [], _, rfl, rfl, Nat.zero_le _, Nat.le_refl _, Nat.le_refl _, rfl, ⟨rfl, .inl ⟨rfl, rfl⟩⟩, Below.refl _ _⟩
  case round =>
    obtain ⟨k, acc, x3, rfl, rfl, hk, hkx, hak, HA, HX, HB⟩ := hrel
    by_cases hlt : k < l.length
    · have hltz : (k : Int) < (l.length : Int) := by omega
      have ok : Own wr w.heap.size 9 (.slice la l.length lc) (sv l) := HO2.out.below HB.out
      obtain ⟨la', lc', hle, -, -, hlc⟩ := ok.rds.len
      simp only [Value.slice.injEq, true_and] at hle
      obtain ⟨rfl, rfl⟩ := hle
      obtain ⟨lb, lo, rfl, hlx⟩ := hlc (by omega)
      have c0 := hlx k hlt
      obtain ⟨hn1, hn2⟩ := HLN.out _ (List.getElem_mem hlt)
      have htk := blN_take l k hlt
      obtain ⟨a, ha⟩ : ∃ a, a = l[k] := ⟨_, rfl⟩
      rw [← ha] at c0 hn1 hn2 htk
      obtain ⟨y, hy⟩ : ∃ y, y = a.drop 2 := ⟨_, rfl⟩
      have hyl : y.length ≤ 2000000 := by rw [hy, List.length_drop]; omega
      obtain ⟨al, hal⟩ : ∃ n, n = a.length := ⟨_, rfl⟩
      have hsz : (⟨a.toArray⟩ : ByteArray).size = al := by rw [str_size, hal]
      have hex := ext_two a al hal
      rw [← hal] at hn1 hn2
      have hn2z : (2 : Int) ≤ (al : Int) := by omega
      rw [← hy] at htk hex
      have kN := refnameB_any wr y hyl
      have HTK : Hid _ := htk
      have HW1 : Hid (wrap64 ((k : Int) + 1) = (k : Int) + 1) := by apply hide; rw [← IntWalk.i64_left, IntKind.wrap_i64]; omega
      clear ok hlc hlx ha hy htk hyl hal
      obtain ⟨q, hq⟩ : ∃ q, q = bNm y := ⟨_, rfl⟩
      rw [← hq] at HTK kN
      clear hq
      go_wp2_with fail
      refine kN.mono ?_
      rintro e w4 ⟨rfl, rfl⟩
      clear kN
      cases q
      case false =>
        go_wp2_with fail
        go_roundg (l.length - (k + 1))
        case measure => exact Nat.lt_of_lt_of_le (Nat.sub_lt_sub_left hlt (Nat.lt_succ_self k)) hkx
        case rel =>
          refine ⟨k + 1, acc, x3, rfl, by first | (rw [HW1.out]; rfl) | rfl, hlt, Nat.le_refl _, Nat.le_succ_of_le hak, ?_, HX, HB⟩
          apply hide
          rw [HTK.out, if_neg (by simp), HA.out]
      case true =>
        have HLO : Hid (RdsK 1 (w4.alloc (.cells #[Value.string ⟨y.toArray⟩] 9)) (.slice (some ⟨w4.heap.size, 0, none⟩) 1 1) 1 [Value.string ⟨y.toArray⟩]) := RdsK.of_own (lit_own w4 [Value.string ⟨y.toArray⟩] 9 (by simp [maxLen]))
        have HAO : Hid ((w4.alloc (.cells #[Value.string ⟨y.toArray⟩] 9)).ownsRow w2.heap.size 9 1 x3 acc.length (sv acc)) := World.ownsRow.alloc HX.out _
        have hsz1 : w2.heap.size ≤ w4.heap.size := HB.out.size
        go_wp2_with (first | (at_builtin; refine wpList_appF rfl _ _ 42 rfl w2.heap.size 9 i0 (.string ⟨#[]⟩) 1 16 Try.underlying42 hi0 hi1 hi2 hi3 rfl (by decide) x3 acc.length (sv acc) rfl HAO.out (.slice (some ⟨w4.heap.size, 0, none⟩) 1 1) 1 [Value.string ⟨y.toArray⟩] rfl HLO.out (fun u hu => by simp at hu; subst hu; rfl) (by unfold maxLen; omega) (by omega) (Nat.le_trans hsz1 (by simp)) ?_; intro v5 w5 o5 g5 _; have H5 : Hid (w5.ownsRow w2.heap.size 9 1 v5 (acc.length + 1) (sv acc ++ [Value.string ⟨y.toArray⟩]) ∧ (w4.alloc (.cells #[Value.string ⟨y.toArray⟩] 9)).grownBy w5 x3.ownBlock) := ⟨o5, g5⟩; clear o5 g5))
        go_wp2_with fail
        obtain ⟨o5, g5⟩ := H5.out
        have gA : w4.grownBy w5 x3.ownBlock := grown_trans (grown_alloc _ _ _) g5
        have hxb : ∀ r, x3.ownBlock = some r → w2.heap.size ≤ r := fun r hr => (own_lt HX.out r hr).1
        go_roundg (l.length - (k + 1))
        case measure => exact Nat.lt_of_lt_of_le (Nat.sub_lt_sub_left hlt (Nat.lt_succ_self k)) hkx
        case rel =>
          refine ⟨k + 1, acc ++ [y], v5, rfl, by first | (rw [HW1.out]; rfl) | rfl, hlt, Nat.le_refl _, by simpa using hak, ?_, ?_, ?_⟩
          · apply hide
            rw [HTK.out, HA.out]
            simp
          · apply hide
            rw [sv_append, List.length_append]
            exact o5
          · exact HB.out.trans ⟨gA.os, gA.tape, gA.output, gA.size, fun i hi => gA.block i (by omega) fun q => by have h1 := hxb i q.symm; omega⟩
    · have hltz : ¬ (k : Int) < (l.length : Int) := by omega
      go_wp2_with fail
      go_ret
      have e1 : rlistB t = acc := by
        rw [HR.out, HA.out, List.take_of_length_le (by omega)]
      rw [e1]
      exact ⟨_, rfl, (by unfold Own; rw [sv_length]; exact own_mono HX.out HB2.out.size), HB2.out.trans (HB.out.mono HB2.out.size)⟩
set_option maxRecDepth 100000 in
set_option maxHeartbeats 3200000 in
theorem refopenB_any (w : World) (r N : Nat) (G : Nat → Prop) (t : RSt) (h : Rd w r G N t) (hnm : ∀ f ∈ t.fs, f.nm.length ≤ 64) (hN : N ≤ 140737488355328) (hop : t.n < 990000) (hp : t.part ≤ 9223372036854775807) :
    Calls Try.prog 40 #[.pointer (some ⟨r, 0, none⟩)] w fun e w' => e = .returned (.int .i64 ((ropenB t).1 : Nat)) ∧ Rm w w' r G N (ropenB t).2 := by
  have hz0 := h
  obtain ⟨Lv, Z, hz⟩ := h
  have c1 := BxA.cell hz.b 1 _ rfl
  cases ho : t.off with
  | true =>
    rw [ho] at c1
    have HR : Hid (ropenB t = (122, t)) := by apply hide; unfold ropenB; rw [ho]; rfl
    have HD : Hid (Rd w r G N t) := hz0
    clear hz hz0 ho
    go_enter Try.func40, Try.ntmps40
    go_wp2_with fail
    go_ret
    rw [HR.out]
    exact ⟨rfl, Rm.sameB HD.out (Nat.le_refl _)⟩
  | false =>
    rw [ho] at c1
    have kL := reflist_any w r N G t [116, 46] hz0 (by simp [maxLen]) fun f hf => Nat.le_trans (hnm f hf) (by decide)
    have hlen : ∀ a ∈ rls t [116, 46], a.length ≤ maxLen := fun a ha => by
      obtain ⟨h1, f, hf, e⟩ := rls_pre ha
      rw [← e]
      exact Nat.le_trans (hnm f hf) (by decide)
    have hfew : (rls t [116, 46]).length ≤ 1000 := Nat.le_trans (rls_few _) hz0.few
    have HR : Hid (ropenB t = rmR (rls t [116, 46]) t) := by apply hide; unfold ropenB; rw [ho]; rfl
    obtain ⟨l, hl⟩ : ∃ l, l = rls t [116, 46] := ⟨_, rfl⟩
    rw [← hl] at kL hlen hfew HR
    have HLN : Hid (∀ t ∈ l, t.length ≤ maxLen) := hlen
    have HD : Hid (Rd w r G N t) := hz0
    clear hz hz0 hl ho hlen hnm
    go_enter Try.func40, Try.ntmps40
    go_wp2_with fail
    refine kL.mono ?_
    rintro e w2 ⟨lv, rfl, o2, b2⟩
    obtain ⟨la, lc, hlv, hlc1, hlc2, -⟩ := o2.rds.len
    subst hlv
    have HO2 : Hid (Own w2 w.heap.size 9 (.slice la l.length lc) (sv l)) := o2
    have HB2 : Hid (Below w.heap.size w w2) := b2
    have HM2 : Hid (Rm w w2 r G N t) := Rm.comp (w1 := w) (w2 := w2) (G1 := G) (fun _ h => .inl h) (Fr.refl _ _) b2 (Rm.sameB (HD.out.below b2) (Nat.le_refl _))
    have HGL : Hid (∀ i, G i → i < w.heap.size) := HD.out.ltB
    have HM0 : Hid (Rm w2 w2 r G N t) := Rm.sameB (HD.out.below b2) (Nat.le_refl _)
    unfold maxLen at hlc2
    clear kL o2 b2 c1
    go_wp2_with fail
    go_loopg [4, 5] l.length (fun kx v4 _ wr => ∃ (k : Nat) (tk : RSt), v4 = .int .i64 (k : Int) ∧ k ≤ l.length ∧ l.length - k ≤ kx ∧ Hid (Rm w2 wr r G N tk) ∧ Hid (rmR l t = rmR (l.drop k) tk) ∧ Hid (tk.n ≤ t.n + k ∧ tk.part = t.part))
    case atStart => exact ⟨0, t, rfl, Nat.zero_le _, Nat.le_refl _, HM0, by apply hide; simp, Nat.le_refl _, rfl⟩
    case round =>
      obtain ⟨k, tk, rfl, hk, hkx, HMk, HRk, HOk⟩ := hrel
      by_cases hlt : k < l.length
      · have hltz : (k : Int) < (l.length : Int) := by omega
        have ok : Own wr w.heap.size 9 (.slice la l.length lc) (sv l) := own_fr HO2.out HMk.out.fr HGL.out
        obtain ⟨la', lc', hle, -, -, hlc⟩ := ok.rds.len
        simp only [Value.slice.injEq, true_and] at hle
        obtain ⟨rfl, rfl⟩ := hle
        obtain ⟨lb, lo, rfl, hlx⟩ := hlc (by omega)
        have c0 := hlx k hlt
        have hopk : tk.n < 1000000 := by have := HOk.out.1; omega
        obtain ⟨⟨Gk, dk, hGk⟩, fk⟩ := HMk.out
        have HK : Hid ((∀ i, Gk i → G i ∨ w2.heap.size ≤ i) ∧ Fr G w2 wr) := ⟨hGk, fk⟩
        have kR := refremove_any wr r N Gk tk l[k] dk (HLN.out _ (List.getElem_mem hlt)) hN hopk (by rw [HOk.out.2]; exact hp)
        have hro := rrem_pt tk l[k]
        have hdr : l.drop k = l[k] :: l.drop (k + 1) := (List.drop_eq_getElem_cons hlt)
        obtain ⟨a, ha⟩ : ∃ a, a = l[k] := ⟨_, rfl⟩
        rw [← ha] at c0 kR hro hdr
        obtain ⟨rr, hrr⟩ : ∃ q, q = rrem tk a := ⟨_, rfl⟩
        rw [← hrr] at kR hro
        obtain ⟨c, t3⟩ := rr
        have HW1 : Hid (wrap64 ((k : Int) + 1) = (k : Int) + 1) := by apply hide; rw [← IntWalk.i64_left, IntKind.wrap_i64]; omega
        have HPR : Hid (rrem tk a = (c, t3)) := hrr.symm
        have HDR : Hid (l.drop k = a :: l.drop (k + 1)) := hdr
        have HRO : Hid _ := hro
        clear ok hlc hlx ha hrr hdr hro hopk dk hGk fk
        by_cases h0 : c = 0
        · subst h0
          go_wp2_with fail
          refine kR.mono ?_
          rintro e w3 ⟨rfl, m3⟩
          have HM3 : Hid (Rm w2 w3 r G N t3) := Rm.comp HK.out.1 HK.out.2 (Below.refl _ _) m3
          clear kR m3
          go_wp2_with fail
          go_roundg (l.length - (k + 1))
          case measure => exact Nat.lt_of_lt_of_le (Nat.sub_lt_sub_left hlt (Nat.lt_succ_self k)) hkx
          case rel =>
            refine ⟨k + 1, t3, by first | (rw [HW1.out]; rfl) | rfl, hlt, Nat.le_refl _, HM3, ?_, ?_⟩
            · apply hide
              rw [HRk.out, HDR.out]
              simp only [rmR, HPR.out, ne_eq, not_true, if_false]
            · apply hide
              have h1 := HRO.out.2
              have h2 := HOk.out.1
              clear HW1
              exact ⟨by omega, HRO.out.1.trans HOk.out.2⟩
        · have h0z : ¬ (c : Int) = 0 := by omega
          have H0 : Hid (c ≠ 0) := h0
          have hcz := code_nz h0
          clear h0
          go_wp2_with fail
          refine kR.mono ?_
          rintro e w3 ⟨rfl, m3⟩
          have HM3 : Hid (Rm w2 w3 r G N t3) := Rm.comp HK.out.1 HK.out.2 (Below.refl _ _) m3
          clear kR m3
          go_wp2_with fail
          go_ret
          have e1 : ropenB t = (c, t3) := by
            rw [HR.out, HRk.out, HDR.out]
            simp only [rmR, HPR.out, ne_eq, H0.out, not_false_eq_true, if_true]
          rw [e1]
          exact ⟨rfl, Rm.comp (w1 := w) (w2 := w2) (G1 := G) (fun _ h => .inl h) (Fr.refl _ _) HB2.out HM3.out⟩
      · have hltz : ¬ (k : Int) < (l.length : Int) := by omega
        have HKL : Hid (l.drop k = []) := by apply hide; exact List.drop_eq_nil_of_le (by omega)
        go_wp2_with fail
        go_ret
        have e1 : ropenB t = (0, tk) := by
          rw [HR.out, HRk.out, HKL.out]
          rfl
        rw [e1]
        exact ⟨rfl, Rm.comp (w1 := w) (w2 := w2) (G1 := G) (fun _ h => .inl h) (Fr.refl _ _) HB2.out HMk.out⟩
end Go.Proofs.Ythegdhbmfojdaaa
