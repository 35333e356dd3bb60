/- Contract of package blob: List. -/
import Derived.Test.YthegdhbmfojdaaaAw
namespace Go.Proofs.Ythegdhbmfojdaaa
open Go.RowKit Go.Maps Go.Sort
set_option linter.unusedVariables false

/-- The names of the files that begin with the mark, without it. -/
def blN (ts : List Str) : List Str := (ts.map fun t => t.drop 2).filter bNm
def blist (s : St) : List Str := blN (lstN s [98, 46])
theorem blN_len (ts : List Str) : (blN ts).length ≤ ts.length := by
  unfold blN
  exact Nat.le_trans (List.length_filter_le _ _) (by simp)
theorem blN_take (ts : List Str) (k : Nat) (h : k < ts.length) : blN (ts.take (k + 1)) = if bNm (ts[k].drop 2) then blN (ts.take k) ++ [ts[k].drop 2] else blN (ts.take k) := by
  unfold blN
  rw [List.take_succ_eq_append_getElem h, List.map_append, List.filter_append]
  cases hb : bNm (ts[k].drop 2) <;> simp [hb]
theorem lst_pre {s : St} {p t : Str} (h : t ∈ lstN s p) : Lib.hasPrefix t p = true := by
  unfold lstN srt preN at h
  split at h
  · cases h
  · have := (List.mergeSort_perm _ _).mem_iff.1 h
    obtain ⟨f, hf, rfl⟩ := List.mem_map.1 this
    exact (List.mem_filter.1 hf).2
set_option maxRecDepth 100000 in
set_option maxHeartbeats 3200000 in
theorem listB_any (w : World) (p d N : Nat) (F : Nat → Prop) (s : St) (h : Dk w d F N s) (hs : Sr w p d) :
    Calls Try.prog 30 #[.pointer (some ⟨p, 0, none⟩)] w fun e w' => ∃ v, e = .returned v ∧ Own w' w.heap.size 9 v (sv (blist s)) ∧ Below w.heap.size w w' := by
  obtain ⟨i0, hi0, hi1, hi2, hi3⟩ := info_parts Try.info_str
  have kL := list_any w d N F s [98, 46] h
  have hlen : ∀ t ∈ lstN s [98, 46], t.length ≤ 64 ∧ Lib.hasPrefix t [98, 46] = true := fun t ht => by
    obtain ⟨f, hf, e⟩ := lst_in ht
    rw [← e]
    exact ⟨h.nms.1 f hf, by rw [e]; exact lst_pre ht⟩
  have hfew : (lstN s [98, 46]).length ≤ 1000 := Nat.le_trans (lst_few _) h.nms.2
  have c0 := BxA.cell hs 0 _ rfl
  have HR : Hid (blist s = blN (lstN s [98, 46])) := rfl
  obtain ⟨l, hl⟩ : ∃ l, l = lstN s [98, 46] := ⟨_, rfl⟩
  rw [← hl] at kL hlen hfew HR
  have HLN : Hid (∀ t ∈ l, t.length ≤ 64 ∧ Lib.hasPrefix t [98, 46] = true) := hlen
  clear h hl hlen hs
  go_enter Try.func30, Try.ntmps30
  go_wp2_with fail
  refine kL.mono ?_
  rintro e w2 ⟨lv, rfl, o2, -, b2⟩
  obtain ⟨la, lc, hlv, hlc1, hlc2, -⟩ := o2.rds.len
  subst hlv
  have HO2 : Hid (Own w2 w.heap.size 9 (.slice la l.length lc) (sv l)) := o2
  have HB2 : Hid (Below w.heap.size w w2) := b2
  unfold maxLen at hlc2
  clear kL o2 b2 c0
  go_wp2_with fail
  go_loopg [3, 5, 6, 15] l.length (fun kx v3 _ _ v15 wr => ∃ (k : Nat) (acc : List Str) (x3 : Value), x3 = v3 ∧ v15 = .int .i64 (k : Int) ∧ k ≤ l.length ∧ l.length - k ≤ kx ∧ acc.length ≤ k ∧ Hid (acc = blN (l.take k)) ∧ Hid (wr.ownsRow w2.heap.size 9 1 x3 acc.length (sv acc)) ∧ Hid (Below w2.heap.size w2 wr))
  case atStart => exact ⟨0, [], _, rfl, rfl, Nat.zero_le _, Nat.le_refl _, Nat.le_refl _, rfl, ⟨rfl, .inl ⟨rfl, rfl⟩⟩, Below.refl _ _⟩
  case round =>
    obtain ⟨k, acc, x3, rfl, rfl, hk, hkx, hak, HA, HX, HB⟩ := hrel
    by_cases hlt : k < l.length
    · have hltz : (k : Int) < (l.length : Int) := by omega
      have ok : Own wr w.heap.size 9 (.slice la l.length lc) (sv l) := HO2.out.below HB.out
      obtain ⟨la', lc', hle, -, -, hlc⟩ := ok.rds.len
      simp only [Value.slice.injEq, true_and] at hle
      obtain ⟨rfl, rfl⟩ := hle
      obtain ⟨lb, lo, rfl, hlx⟩ := hlc (by omega)
      have c0 := hlx k hlt
      obtain ⟨hn1, hn2⟩ := HLN.out _ (List.getElem_mem hlt)
      have htk := blN_take l k hlt
      have kT : Calls Try.prog 58 #[.string ⟨(l[k]).toArray⟩, .string ⟨#[98, 46]⟩] wr fun ev w' => ev = .returned (.string ⟨((l[k]).drop 2).toArray⟩) ∧ w' = wr := by
        have := Try.strings_TrimPrefix ⟨(l[k]).toArray⟩ ⟨#[98, 46]⟩ wr
        rw [show Lib.trimPrefix (⟨(l[k]).toArray⟩ : ByteArray).data.toList (⟨#[98, 46]⟩ : ByteArray).data.toList = (l[k]).drop 2 by
          unfold Lib.trimPrefix
          rw [if_pos (by simpa using hn2)]
          rfl] at this
        exact this
      obtain ⟨t, ht⟩ : ∃ t, t = l[k] := ⟨_, rfl⟩
      rw [← ht] at c0 kT hn1 htk
      obtain ⟨y, hy⟩ : ∃ y, y = t.drop 2 := ⟨_, rfl⟩
      have hyl : y.length ≤ maxLen := by rw [hy, List.length_drop]; unfold maxLen; omega
      rw [← hy] at kT htk
      have kN := bname_any wr y hyl
      have HTK : Hid _ := htk
      have HW1 : Hid (wrap64 ((k : Int) + 1) = (k : Int) + 1) := by apply hide; rw [← IntWalk.i64_left, IntKind.wrap_i64]; omega
      clear ok hlc hlx ht hy htk hn1 hn2 hyl
      go_wp2_with fail
      refine kT.mono ?_
      rintro e wq ⟨rfl, rfl⟩
      clear kT
      go_wp2_with fail
      refine kN.mono ?_
      rintro e w4 ⟨rfl, b4⟩
      have HB4 : Hid (Below w2.heap.size w2 w4) := HB.out.trans (b4.mono HB.out.size)
      have HX4 : Hid (w4.ownsRow w2.heap.size 9 1 x3 acc.length (sv acc)) := by
        apply hide
        refine ⟨HX.out.1, ?_⟩
        rcases HX.out.2 with h2 | ⟨g, cap, cur, q1, q2, q3, q4⟩
        · exact .inl h2
        · exact .inr ⟨g, cap, cur, q1, q2, by rw [b4.block g (Array.getElem?_eq_some_iff.1 q3).1]; exact q3, q4⟩
      obtain ⟨q, hq⟩ : ∃ q, q = bNm y := ⟨_, rfl⟩
      rw [← hq]
      rw [← hq] at HTK
      clear kN b4 hq c0
      cases q
      case false =>
        go_wp2_with fail
        go_roundg (l.length - (k + 1))
        case measure => exact Nat.lt_of_lt_of_le (Nat.sub_lt_sub_left hlt (Nat.lt_succ_self k)) hkx
        case rel =>
          refine ⟨k + 1, acc, x3, rfl, by first | (rw [HW1.out]; rfl) | rfl, hlt, Nat.le_refl _, Nat.le_succ_of_le hak, ?_, HX4, HB4⟩
          apply hide
          rw [HTK.out, if_neg (by simp), HA.out]
      case true =>
        have HLO : Hid (RdsK 1 (w4.alloc (.cells #[Value.string ⟨y.toArray⟩] 9)) (.slice (some ⟨w4.heap.size, 0, none⟩) 1 1) 1 [Value.string ⟨y.toArray⟩]) := RdsK.of_own (lit_own w4 [Value.string ⟨y.toArray⟩] 9 (by simp [maxLen]))
        have HAO : Hid ((w4.alloc (.cells #[Value.string ⟨y.toArray⟩] 9)).ownsRow w2.heap.size 9 1 x3 acc.length (sv acc)) := World.ownsRow.alloc HX4.out _
        have hsz1 : w2.heap.size ≤ w4.heap.size := HB4.out.size
        go_wp2_with (first | (at_builtin; refine wpList_appF rfl _ _ 42 rfl w2.heap.size 9 i0 (.string ⟨#[]⟩) 1 16 Try.underlying42 hi0 hi1 hi2 hi3 rfl (by decide) x3 acc.length (sv acc) rfl HAO.out (.slice (some ⟨w4.heap.size, 0, none⟩) 1 1) 1 [Value.string ⟨y.toArray⟩] rfl HLO.out (fun u hu => by simp at hu; subst hu; rfl) (by unfold maxLen; omega) (by omega) (Nat.le_trans hsz1 (by simp)) ?_; intro v5 w5 o5 g5 _; have H5 : Hid (w5.ownsRow w2.heap.size 9 1 v5 (acc.length + 1) (sv acc ++ [Value.string ⟨y.toArray⟩]) ∧ (w4.alloc (.cells #[Value.string ⟨y.toArray⟩] 9)).grownBy w5 x3.ownBlock) := ⟨o5, g5⟩; clear o5 g5))
        go_wp2_with fail
        obtain ⟨o5, g5⟩ := H5.out
        have gA : w4.grownBy w5 x3.ownBlock := grown_trans (grown_alloc _ _ _) g5
        have hxb : ∀ r, x3.ownBlock = some r → w2.heap.size ≤ r := fun r hr => (own_lt HX4.out r hr).1
        go_roundg (l.length - (k + 1))
        case measure => exact Nat.lt_of_lt_of_le (Nat.sub_lt_sub_left hlt (Nat.lt_succ_self k)) hkx
        case rel =>
          refine ⟨k + 1, acc ++ [y], v5, rfl, by first | (rw [HW1.out]; rfl) | rfl, hlt, Nat.le_refl _, by simpa using hak, ?_, ?_, ?_⟩
          · apply hide
            rw [HTK.out, HA.out]
            simp
          · apply hide
            rw [sv_append, List.length_append]
            exact o5
          · exact HB4.out.trans ⟨gA.os, gA.tape, gA.output, gA.size, fun i hi => gA.block i (by omega) fun q => by have h1 := hxb i q.symm; omega⟩
    · have hltz : ¬ (k : Int) < (l.length : Int) := by omega
      go_wp2_with fail
      go_ret
      have e1 : blist s = acc := by
        rw [HR.out, HA.out, List.take_of_length_le (by omega)]
      rw [e1]
      exact ⟨_, rfl, (by unfold Own; rw [sv_length]; exact own_mono HX.out HB2.out.size), HB2.out.trans (HB.out.mono HB2.out.size)⟩
theorem list_ls (w0 w : World) (p d N : Nat) (F : Nat → Prop) (s : St) (h : LS w0 w p d F N s) :
    Calls Try.prog 30 #[.pointer (some ⟨p, 0, none⟩)] w fun e w' => ∃ v, e = .returned v ∧ Own w' w.heap.size 9 v (sv (blist s)) ∧ Below w.heap.size w w' := listB_any w p d N F s h.dk h.sr
end Go.Proofs.Ythegdhbmfojdaaa
