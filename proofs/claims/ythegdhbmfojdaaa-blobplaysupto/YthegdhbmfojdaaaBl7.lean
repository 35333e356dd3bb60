/- Contracts of package blob: Open. -/
import Derived.Test.YthegdhbmfojdaaaBl6
import Derived.Test.YthegdhbmfojdaaaSam
namespace Go.Proofs.Ythegdhbmfojdaaa
open Go.RowKit Go.Maps Go.Sort
set_option linter.unusedVariables false

/-- Files are removed, one behind the other. -/
def rmA : List Str → St → Nat × St
  | [], s => (0, s)
  | t :: ts, s => if (s.remove t).1 ≠ 0 then s.remove t else rmA ts (s.remove t).2
def bopen (s : St) : Nat × St := if s.off then (122, s) else rmA (lstN s [116, 46]) s
theorem lst_in {s : St} {p t : Str} (h : t ∈ lstN s p) : ∃ f ∈ s.fs, f.nm = t := by
  unfold lstN srt preN at h
  split at h
  · cases h
  · have := (List.mergeSort_perm _ _).mem_iff.1 h
    obtain ⟨f, hf, rfl⟩ := List.mem_map.1 this
    exact ⟨f, (List.mem_filter.1 hf).1, rfl⟩
theorem Dk.nms {w : World} {d N : Nat} {F : Nat → Prop} {s : St} (h : Dk w d F N s) : (∀ f ∈ s.fs, f.nm.length ≤ 64) ∧ s.fs.length ≤ 1000 := by
  obtain ⟨mo, Z, z⟩ := h
  refine ⟨fun f hf => ?_, ?_⟩
  · rw [← z.fs] at hf
    obtain ⟨x, hx, rfl⟩ := List.mem_map.1 hf
    exact z.nm x hx
  · rw [← z.fs, List.length_map]
    exact z.few
theorem lst_few {s : St} (p : Str) : (lstN s p).length ≤ s.fs.length := by
  unfold lstN srt preN
  split
  · exact Nat.zero_le _
  · rw [List.length_mergeSort, List.length_map]
    exact List.length_filter_le _ _
/-- Behind Open. -/
structure Op (w w' : World) (d N : Nat) (F : Nat → Prop) (r : Nat × St) (e : Ending) : Prop where
  dk : Dk w' d F N r.2
  fr : Fr F w w'
  ok : r.1 = 0 → ∃ p, e = .returned (.tuple #[.pointer (some ⟨p, 0, none⟩), .int .i64 0]) ∧ Sr w' p d ∧ w.heap.size ≤ p
  no : r.1 ≠ 0 → e = .returned (.tuple #[.pointer none, .int .i64 (r.1 : Int)])
theorem own_fr {F : Nat → Prop} {w w' : World} {base e n : Nat} {v : Value} {xs : List Value} (h : w.ownsRow base e 1 v n xs) (hf : Fr F w w') (hF : ∀ i, F i → i < base) : w'.ownsRow base e 1 v n xs := by
  refine ⟨h.1, ?_⟩
  rcases h.2 with h2 | ⟨g, cap, cur, h1, h2, h3, h4⟩
  · exact .inl h2
  · refine .inr ⟨g, cap, cur, h1, h2, ?_, h4⟩
    rw [hf.block g (Array.getElem?_eq_some_iff.1 h3).1 fun hg => by have := hF g hg; omega]
    exact h3
set_option maxRecDepth 100000 in
set_option maxHeartbeats 3200000 in
theorem openB_any (w : World) (d N : Nat) (F : Nat → Prop) (s : St) (h : Dk w d F N s) (hop : s.ops < 990000) :
    Calls Try.prog 12 #[.pointer (some ⟨d, 0, none⟩)] w fun e w' => Op w w' d N F (bopen s) e := by
  have kO := off_any w d N F s h
  cases ho : s.off with
  | true =>
    rw [ho] at kO
    have HR : Hid (bopen s = (122, s)) := by apply hide; unfold bopen; rw [ho]; rfl
    have HD : Hid (Dk w d F N s) := h
    clear h ho
    go_enter Try.func12, Try.ntmps12
    go_wp2_with fail
    refine kO.mono ?_
    rintro e w1 ⟨rfl, rfl⟩
    go_wp2_with fail
    go_ret2
    rw [HR.out]
    exact ⟨HD.out, Fr.refl _ _, fun h => (by cases h), fun _ => rfl⟩
  | false =>
    rw [ho] at kO
    have kL := list_any w d N F s [116, 46] h
    have hlen : ∀ t ∈ lstN s [116, 46], t.length ≤ maxLen := fun t ht => by
      obtain ⟨f, hf, rfl⟩ := lst_in ht
      exact Nat.le_trans (h.nms.1 f hf) (by decide)
    have hfew : (lstN s [116, 46]).length ≤ 1000 := Nat.le_trans (lst_few _) h.nms.2
    have HR : Hid (bopen s = rmA (lstN s [116, 46]) s) := by apply hide; unfold bopen; rw [ho]; rfl
    obtain ⟨l, hl⟩ : ∃ l, l = lstN s [116, 46] := ⟨_, rfl⟩
    rw [← hl] at kL hlen hfew HR
    have HLN : Hid (∀ t ∈ l, t.length ≤ maxLen) := hlen
    have HD : Hid (Dk w d F N s) := h
    have HFL : Hid (∀ i, F i → i < w.heap.size) := h.lt
    clear h hl ho hlen
    go_enter Try.func12, Try.ntmps12
    go_wp2_with fail
    refine kO.mono ?_
    rintro e w1 ⟨rfl, rfl⟩
    clear kO
    go_wp2_with fail
    refine kL.mono ?_
    rintro e w2 ⟨lv, rfl, o2, -, b2⟩
    obtain ⟨la, lc, hlv, hlc1, hlc2, -⟩ := o2.rds.len
    subst hlv
    have HO2 : Hid (Own w2 w1.heap.size 9 (.slice la l.length lc) (sv l)) := o2
    have HB2 : Hid (Below w1.heap.size w1 w2) := b2
    have HD2 : Hid (Dk w2 d F N s) := HD.out.below b2
    unfold maxLen at hlc2
    clear kL o2 b2
    go_wp2_with fail
    go_loopg [5, 6, 14] l.length (fun kx _ _ v14 wr => ∃ (k : Nat) (sk : St), v14 = .int .i64 (k : Int) ∧ k ≤ l.length ∧ l.length - k ≤ kx ∧ Hid (Dk wr d F N sk) ∧ Hid (Fr F w2 wr) ∧ Hid (rmA l s = rmA (l.drop k) sk) ∧ Hid (sk.ops ≤ s.ops + k))
    case atStart => exact ⟨0, s, rfl, Nat.zero_le _, Nat.le_refl _, HD2, Fr.refl _ _, by apply hide; simp, Nat.le_refl _⟩
    case round =>
      obtain ⟨k, sk, rfl, hk, hkx, HDk, HFk, HRk, HOk⟩ := hrel
      by_cases hlt : k < l.length
      · have hltz : (k : Int) < (l.length : Int) := by omega
        have ok : Own wr w1.heap.size 9 (.slice la l.length lc) (sv l) := own_fr HO2.out HFk.out HFL.out
        obtain ⟨la', lc', hle, -, -, hlc⟩ := ok.rds.len
        simp only [Value.slice.injEq, true_and] at hle
        obtain ⟨rfl, rfl⟩ := hle
        obtain ⟨lb, lo, rfl, hlx⟩ := hlc (by omega)
        have c0 := hlx k hlt
        have hopk : sk.ops < 1000000 := by have := HOk.out; omega
        have kR := remove_any wr d N F sk l[k] HDk.out (HLN.out _ (List.getElem_mem hlt)) hopk
        have hro := remove_ops sk l[k]
        have hdr : l.drop k = l[k] :: l.drop (k + 1) := (List.drop_eq_getElem_cons hlt)
        obtain ⟨t, ht⟩ : ∃ t, t = l[k] := ⟨_, rfl⟩
        rw [← ht] at c0 kR hro hdr
        obtain ⟨c, hc⟩ : ∃ c, c = (sk.remove t).1 := ⟨_, rfl⟩
        obtain ⟨s3, hs3⟩ : ∃ q, q = (sk.remove t).2 := ⟨_, rfl⟩
        have hpr : sk.remove t = (c, s3) := by rw [hc, hs3]
        rw [← hc, ← hs3] at kR
        rw [← hs3] at hro
        have HW1 : Hid (wrap64 ((k : Int) + 1) = (k : Int) + 1) := by apply hide; rw [← IntWalk.i64_left, IntKind.wrap_i64]; omega
        have HPR : Hid (sk.remove t = (c, s3)) := hpr
        have HDR : Hid (l.drop k = t :: l.drop (k + 1)) := hdr
        have HRO : Hid (s3.ops ≤ sk.ops + 1) := hro
        clear ok hlc hlx ht hc hs3 hpr hdr hro hopk
        by_cases h0 : c = 0
        · subst h0
          go_wp2_with fail
          refine kR.mono ?_
          rintro e w3 ⟨rfl, d3, f3⟩
          have HD3 : Hid (Dk w3 d F N s3) := d3
          have HF3 : Hid (Fr F w2 w3) := HFk.out.trans f3 fun _ _ h => h
          clear kR d3 f3
          go_wp2_with fail
          go_roundg (l.length - (k + 1))
          case measure => exact Nat.lt_of_lt_of_le (Nat.sub_lt_sub_left hlt (Nat.lt_succ_self k)) hkx
          case rel =>
            refine ⟨k + 1, s3, by first | (rw [HW1.out]; rfl) | rfl, hlt, Nat.le_refl _, HD3, HF3, ?_, ?_⟩
            · apply hide
              rw [HRk.out, HDR.out]
              simp only [rmA, HPR.out, ne_eq, not_true, if_false]
            · apply hide
              have h1 := HRO.out
              have h2 := HOk.out
              clear HW1
              omega
        · have h0z : ¬ (c : Int) = 0 := by omega
          have H0 : Hid (c ≠ 0) := h0
          clear h0
          go_wp2_with fail
          refine kR.mono ?_
          rintro e w3 ⟨rfl, d3, f3⟩
          have HD3 : Hid (Dk w3 d F N s3) := d3
          have HF3 : Hid (Fr F w2 w3) := HFk.out.trans f3 fun _ _ h => h
          clear kR d3 f3
          go_wp2_with fail
          go_ret2
          have e1 : bopen s = (c, s3) := by
            rw [HR.out, HRk.out, HDR.out]
            simp only [rmA, HPR.out, ne_eq, H0.out, not_false_eq_true, if_true]
          rw [e1]
          exact ⟨HD3.out, (Fr.of_below HB2.out).trans HF3.out fun _ _ h => h, fun h => absurd h H0.out, fun _ => rfl⟩
      · have hltz : ¬ (k : Int) < (l.length : Int) := by omega
        have HKL : Hid (l.drop k = []) := by apply hide; exact List.drop_eq_nil_of_le (by omega)
        go_wp2_with fail
        go_ret2
        have e1 : bopen s = (0, sk) := by
          rw [HR.out, HRk.out, HKL.out]
          rfl
        rw [e1]
        have b3 : Below wr.heap.size wr (wr.alloc (.cells #[.pointer (some ⟨d, 0, none⟩)] 71)) := (Below.refl _ _).alloc (Nat.le_refl _) _
        have f3 : Fr F w1 wr := (Fr.of_below HB2.out).trans HFk.out fun _ _ h => h
        exact ⟨HDk.out.below b3, f3.trans (Fr.of_below b3) fun _ _ h => h, fun _ => ⟨_, rfl, BxA.new _ _ _, f3.size⟩, fun h => absurd rfl h⟩
end Go.Proofs.Ythegdhbmfojdaaa
