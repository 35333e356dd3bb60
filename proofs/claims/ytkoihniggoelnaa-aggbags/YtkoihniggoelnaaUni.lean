/- The contract of union. -/
import Derived.Test.YtkoihniggoelnaaUMath
import Derived.Test.YtkoihniggoelnaaChk
import Derived.Shelf.Lay
import Derived.Ground.Names2Prog
import Derived.Laws.AppendOwnNone
import Derived.Deep.DeepAppendWide
import Derived.Lib.SliceRun
import Derived.Deep.LoopGhost
import Derived.Deep.CutBlock
import Derived.Deep.RegionLaw
import Derived.Deep.DeepCutAuto
import Derived.Handy
namespace Go.Proofs.Ytkoihniggoelnaa
open Go.Shelf Go.RowKit Go.Sort
shelf_lay Lays2.n26 Nm2 26 at Try as searchL

/-- append(s, x...): s the call's own, x whatever reads as elements, nil too. -/
theorem wpList_appK {P : Program} {w : World} {ops : Array Oper} {rest : List Oper} {o : Oper} {a : Act} {Q : Exit → Act → World → Prop} (hgd : o.guard = none) (s x : Operand) (t : TypeId)
    (ho : o.op = .call { callee := .builtin .append, args := #[s, x], argTypes := #[t, t] })
    (base : Nat) (e : TypeId) (i : TypeInfo) (z : Value) (size bytes : Nat) (ht : P.underlying t = some (.slice e)) (hi : P.info? e = some i) (hz : i.zero = some z)
    (hsize : i.size = size) (hby : i.bytes = bytes) (hzs : z.cells.size = size) (hsz : 0 < size)
    (v : Value) (n : Nat) (xs : List Value) (hs : a.eval s = v) (hown : w.ownsRow base e size v n xs)
    (u : Value) (m : Nat) (news : List Value) (hx : a.eval x = u) (hr : RdsK size w u m news) (h1 : ∀ u ∈ news, u.oneCell' = true)
    (h63 : n + m ≤ maxLen) (hbytes : ((n + m) + (n + m) / 4 + 192) * bytes ≤ 281474976710656) (hbase : base ≤ w.heap.size)
    (h : ∀ v' w', w'.ownsRow base e size v' (n + m) (xs ++ news) → w.grownBy w' v.ownBlock → (v' = .slice none 0 0 → v = .slice none 0 0) → wpList P ops Q rest (a.put o.dst v') w') : wpList P ops Q (o :: rest) a w := by
  obtain ⟨ao, cap, rfl, h0, h2, h3, h4, h5⟩ := hr
  cases ao with
  | none =>
    obtain ⟨rfl, rfl⟩ := h4 rfl
    have hn : news = [] := List.eq_nil_of_length_eq_zero (by simpa using h0)
    subst hn
    refine wpList_append_own_none hgd s x t ho base e i size ht hi v n xs hs hown hx ?_
    exact h v w (by simpa using hown) ⟨rfl, rfl, rfl, Nat.le_refl _, fun _ _ _ => rfl⟩ id
  | some ad =>
    exact wpList_append_own_wide w hgd s x t ho base e i z size bytes ht hi hz hsize hby hzs hsz v n xs hs hown ad m cap news hx h0 (h5 ad rfl) h1 h63 hbytes hbase fun v' w' k1 k2 k3 => h v' w' k1 k2 fun e => (k3.1 e).1
theorem own_sl {w : World} {base e k n : Nat} {v : Value} {xs : List Value} (h : w.ownsRow base e k v n xs) : ∃ a n c, v = .slice a n c := by obtain ⟨ao, cap, rfl, _⟩ := RdsK.of_own h; exact ⟨_, _, _, rfl⟩
theorem own_below {w w' : World} {base e k n : Nat} {v : Value} {xs : List Value} (h : w.ownsRow base e k v n xs) (hb : Below w.heap.size w w') : w'.ownsRow base e k v n xs := by
  refine ⟨h.1, ?_⟩
  rcases h.2 with h2 | ⟨g, cap, cur, h1, h2, h3, h4⟩
  · exact .inl h2
  · refine .inr ⟨g, cap, cur, h1, h2, ?_, h4⟩
    rw [hb.block g (Array.getElem?_eq_some_iff.1 h3).1]
    exact h3
theorem one_rdS (w : World) (x : Str) (B : Nat) (hB : B = w.heap.size) : RdsK 1 (w.alloc (.cells #[.string ⟨x.toArray⟩] 9)) (.slice (some ⟨B, 0, none⟩) 1 1) 1 (sv [x]) := by
  subst hB
  refine ⟨some ⟨w.heap.size, 0, none⟩, 1, rfl, by simp [sv], Nat.le_refl _, by decide, (fun h => by cases h), ?_⟩
  rintro ad ⟨rfl⟩ j u hj
  rw [Addr.add_lit, Nat.zero_add]
  have hj4 : j < 1 := by
    have := (List.getElem?_eq_some_iff.1 hj).1
    simpa [sv] using this
  have : j = 0 := by omega
  subst this
  simpa [sv] using hj
theorem room_u {n : Nat} (h : n ≤ 1000) : n ≤ maxLen ∧ (n + n / 4 + 192) * 16 ≤ 281474976710656 := by unfold maxLen; omega
/-- A row of texts that lies so. -/
structure Ln (w : World) (b off n cap : Nat) (l : List Str) : Prop where
  hn : n = l.length
  hle : n ≤ cap
  hcap : cap ≤ maxLen
  hc : ∀ j, j < l.length → w.cell? ⟨b, off + j, none⟩ = some (.string ⟨(l.getD j []).toArray⟩)
theorem Rds.ln {w : World} {ao : Option Addr} {n cap : Nat} {l : List Str} (h : Rds w (.slice ao n cap) (sv l)) (hp : 0 < l.length) : ∃ b off, ao = some ⟨b, off, none⟩ ∧ Ln w b off n cap l := by
  obtain ⟨h1, h2, h3, h4⟩ := h.cells
  rw [sv_length] at h1 h2 h4
  obtain ⟨b, off, e, hc⟩ := h4 hp
  exact ⟨b, off, e, h1, by omega, h3, fun j hj => hc j _ (sv_get l j hj)⟩
theorem Ln.below {w w' : World} {b off n cap : Nat} {l : List Str} (h : Ln w b off n cap l) (hb : Below w.heap.size w w') : Ln w' b off n cap l :=
  ⟨h.hn, h.hle, h.hcap, fun j hj => by rw [hb.cell (World.block_lt_of_cell? _ _ (h.hc j hj))]; exact h.hc j hj⟩
theorem Ln.pre {w : World} {b off n cap : Nat} {l : List Str} (h : Ln w b off n cap l) {k : Nat} (hk : k ≤ l.length) : RdsK 1 w (.slice (some ⟨b, off, none⟩) k cap) k (sv (l.take k)) := by
  refine ⟨_, cap, rfl, by simp [sv, hk], by have := h.hle; have := h.hn; omega, h.hcap, (fun h => by cases h), ?_⟩
  rintro ad ⟨rfl⟩ j u hj
  have hjl : j < (l.take k).length := by have := (List.getElem?_eq_some_iff.1 hj).1; simpa [sv] using this
  have hjk : j < k ∧ j < l.length := by simp at hjl; omega
  rw [Addr.add_lit, h.hc j hjk.2]
  rw [sv_get _ j hjl] at hj
  rw [← hj]
  simp [List.getD, hjk.1]
theorem Ln.post {w : World} {b off n cap : Nat} {l : List Str} (h : Ln w b off n cap l) {k : Nat} (hk : k ≤ l.length) : Ln w b (off + k) (n - k) (cap - k) (l.drop k) := by
  have h1 := h.hn
  have h2 := h.hle
  have h3 := h.hcap
  refine ⟨by simp; omega, by omega, by omega, fun j hj => ?_⟩
  have hj' : k + j < l.length := by simp at hj; omega
  have := h.hc (k + j) hj'
  rw [← Nat.add_assoc] at this
  rw [this]
  simp [List.getD]
theorem Ln.nil (w : World) (b off : Nat) : Ln w b off 0 0 [] := ⟨rfl, Nat.le_refl _, Nat.zero_le _, fun j hj => by simp at hj⟩
theorem search_any (w : World) (b off n cap : Nat) (l : List Str) (x : Str) (h : Ln w b off n cap l) (hn : n ≤ 1000) :
    Calls Try.prog 60 #[.slice (some ⟨b, off, none⟩) n cap, .string ⟨x.toArray⟩] w fun e w' => e = .returned (.tuple #[.int .i64 (bsL l x : Nat), .bool (fndL l x)]) ∧ ∃ q, w' = w.drewN q := by
  have hc := Any2.slices_BinarySearch_string searchL b off n cap (fun j => ⟨(l.getD j []).toArray⟩) ⟨x.toArray⟩ w (by omega) (fun j hj => h.hc j (by have := h.hn; omega))
  change Calls Try.prog 60 _ _ _ at hc
  simp only [str_toList] at hc
  have e1 : Lib.bsGo (fun t => Op.bytesLess (l.getD t []) x) n 0 n = bsL l x := by rw [h.hn]; rfl
  rw [e1] at hc
  have e2 : decide (bsL l x < n ∧ (⟨(l.getD (bsL l x) []).toArray⟩ : ByteArray) = ⟨x.toArray⟩) = fndL l x := by
    unfold fndL
    rw [h.hn]
    congr 1
    simp
  rw [e2] at hc
  exact hc

set_option maxHeartbeats 4000000 in
theorem union_any (w : World) (v u : Value) (l m : List Str) (h : Rds w v (sv l)) (k : Rds w u (sv m)) (hl : 0 < l.length) (hm : 0 < m.length) (hbig : l.length + m.length ≤ 1000) :
    Calls Try.prog 56 #[v, u] w fun e w' => ∃ v', e = .returned v' ∧ w'.ownsRow w.heap.size 9 1 v' (uniL l m).length (sv (uniL l m)) ∧ Below w.heap.size w w' := by
  obtain ⟨i0, hi, hz0, hz1, hz2⟩ := info_parts Try.info_str
  have HOne : Aside (∀ l : List Str, ∀ v ∈ sv l, v.oneCell' = true) := sv_one
  obtain ⟨ao, nl, cl, rfl⟩ := h.sl
  obtain ⟨ao2, nm, cm, rfl⟩ := k.sl
  obtain ⟨bl, ol, rfl, Ll⟩ := h.ln hl
  obtain ⟨bm, om, rfl, Lm⟩ := k.ln hm
  have hcl := Ll.hcap
  have hcm := Lm.hcap
  have hel := Ll.hle
  have hem := Lm.hle
  have hn1 := Ll.hn
  have hn2 := Lm.hn
  rw [← hn1, ← hn2] at hbig
  unfold maxLen at hcl hcm
  have HLl : Hid _ := Ll
  have HLm : Hid _ := Lm
  have HNs : Hid (nl = l.length ∧ nm = m.length) := ⟨hn1, hn2⟩
  have hs0 : w.heap.size ≤ w.heap.size := Nat.le_refl _
  clear h k hl hm hn1 hn2 Ll Lm
  go_enter Try.func56, Try.ntmps56
  by_cases hsw : nl < nm
  · have hswz : (nl : Int) < (nm : Int) := by omega
    have HU : Hid (uniL l m = uniA m l) := by show _ = _; unfold uniL; rw [if_pos (by have := HNs.out; omega)]
    go_upto_region 4 with (first
      | (at_make; refine wpList_make_own _ rfl _ _ 28 rfl w.heap.size 9 i0 (.string ⟨#[]⟩) 1 Try.underlying28 hi hz0 hz1 .i64 .i64 _ (nm + nl) rfl rfl (by omega) (by rw [hz2]; omega) (by unfold maxLen; omega) hs0 ?_; intro w0 hown0 hgrow0))
    have bb0 : Below w.heap.size w w0 := (Below.refl _ _).grown hgrow0 hs0 (fun j hj => by cases hj)
    have HO0 : Hid (w0.ownsRow w.heap.size 9 1 (.slice (some ⟨w.heap.size, 0, none⟩) 0 (nm + nl)) 0 []) := hown0
    have HB0 : Hid _ := bb0
    clear hown0 hgrow0 bb0
    go_wp2_with fail
    go_loopg [0, 5, 25] nl (fun kx v0 v5 vi wr => ∃ (i : Nat) (out rest : List Str) (b off nr cap : Nat), vi = .int .i64 i ∧ v0 = .slice (some ⟨b, off, none⟩) nr cap ∧ i ≤ nl ∧ nl - i ≤ kx ∧ nr ≤ cap ∧ cap ≤ 9223372036854775807 ∧ Hid (Ln w b off nr cap rest) ∧ Hid ((out, rest) = ((l).take i).foldl ust ([], m)) ∧ out.length + nr ≤ nm + i ∧ Hid (wr.ownsRow w.heap.size 9 1 v5 out.length (sv out)) ∧ Hid (Below w.heap.size w wr))
    case atStart => exact ⟨0, [], m, bm, om, nm, cm, rfl, rfl, by omega, Nat.le_refl _, by omega, by omega, HLm.out, rfl, by simp, HO0.out, HB0.out⟩
    case round =>
      clear HO0 HB0
      obtain ⟨i, out, rest, b, off, nr, cap, rfl, rfl, hin, hkx, hnr, hcp, HL, HX, hlen, HO, HB⟩ := hrel
      obtain ⟨a5, n5, c5, hv5⟩ := own_sl HO.out
      subst hv5
      by_cases hlt : i < nl
      · have hltz : (i : Int) < (nl : Int) := by omega
        have hil : i < (l).length := by have := HNs.out; omega
        have q0 := (HLl.out.below HB.out).hc i hil
        have hgd : (l).getD i [] = (l)[i] := by simp [hil]
        rw [hgd] at q0
        have htk : (l).take (i + 1) = (l).take i ++ [(l)[i]] := List.take_succ_eq_append_getElem hil
        have HX2 : Hid (((l).take (i + 1)).foldl ust ([], m) = ust (out, rest) (l)[i]) := by show _ = _; rw [htk, List.foldl_append, ← HX.out]; rfl
        generalize (l)[i] = x at *
        have kS := search_any wr b off nr cap rest x (HL.out.below HB.out) (by omega)
        have hkl := bsL_le rest x
        have hfk : fndL rest x = true → bsL rest x < rest.length := fun hf => (of_decide_eq_true hf).1
        have HU2 : Hid (ust (out, rest) x = (out ++ rest.take (bsL rest x) ++ [x], rest.drop (bsL rest x + if fndL rest x then 1 else 0))) := rfl
        have hnre := HL.out.hn
        rw [← hnre] at hkl hfk
        generalize bsL rest x = kk at *
        have HP1 : Hid (RdsK 1 w (.slice (some ⟨b, off, none⟩) kk cap) kk (sv (rest.take kk))) := HL.out.pre (by omega)
        have HPost : Aside (∀ j, j ≤ nr → Ln w b (off + j) (nr - j) (cap - j) (rest.drop j)) := fun j hj => HL.out.post (by omega)
        obtain ⟨e1, e2⟩ := room_u (n := out.length + kk) (by omega)
        obtain ⟨e3, e4⟩ := room_u (n := out.length + kk + 1) (by omega)
        have hkz : (kk : Int) ≤ (cap : Int) := by omega
        have HNr : Hid _ := hnre
        generalize fndL rest x = fd at *
        clear hgd htk hnre
        go_wp2_with fail
        refine kS.mono ?_
        rintro e w3 ⟨rfl, q, rfl⟩
        have HO3 : Hid ((wr.drewN q).ownsRow w.heap.size 9 1 (.slice a5 n5 c5) out.length (sv out)) := own_below HO.out (Grows.drewN wr q).below
        have HB3 : Hid (Below w.heap.size w (wr.drewN q)) := HB.out.trans ((Grows.drewN wr q).below.mono HB.out.size)
        have HP3 : Hid (RdsK 1 (wr.drewN q) (.slice (some ⟨b, off, none⟩) kk cap) kk (sv (rest.take kk))) := RdsK.below HP1.out HB3.out
        have hs3 : w.heap.size ≤ (wr.drewN q).heap.size := HB3.out.size
        clear kS HO HB HP1
        go_upto_region 9 with (first
          | (at_builtin; refine wpList_appK rfl _ _ 28 rfl w.heap.size 9 i0 (.string ⟨#[]⟩) 1 16 Try.underlying28 hi hz0 hz1 hz2 rfl (by decide) _ _ _ rfl HO3.out _ _ _ rfl HP3.out (HOne.out _) e1 e2 hs3 ?_; intro v4 w4 hown4 hgrow4 hnil4; clear hnil4))
        have bb4 : Below w.heap.size w w4 := HB3.out.grown hgrow4 hs3 (fun j hj => (World.ownsRow.lt HO3.out j hj).1)
        obtain ⟨a4, n4, c4, hv4⟩ := own_sl hown4
        subst hv4
        have HO4 : Hid ((w4.alloc (.cells #[.string ⟨x.toArray⟩] 9)).ownsRow w.heap.size 9 1 (.slice a4 n4 c4) (out.length + kk) (sv out ++ sv (rest.take kk))) := own_below hown4 ((Below.refl _ _).alloc (Nat.le_refl _) _)
        have HB4 : Hid (Below w.heap.size w (w4.alloc (.cells #[.string ⟨x.toArray⟩] 9))) := bb4.alloc bb4.size _
        have HR4 : Hid (RdsK 1 (w4.alloc (.cells #[.string ⟨x.toArray⟩] 9)) (.slice (some ⟨w4.heap.size, 0, none⟩) 1 1) 1 (sv [x])) := one_rdS w4 x _ rfl
        have hs4 : w.heap.size ≤ (w4.alloc (.cells #[.string ⟨x.toArray⟩] 9)).heap.size := HB4.out.size
        clear hown4 hgrow4 bb4 HO3 HB3 HP3
        go_upto_region 10 with (first
          | (at_builtin; refine wpList_appK rfl _ _ 28 rfl w.heap.size 9 i0 (.string ⟨#[]⟩) 1 16 Try.underlying28 hi hz0 hz1 hz2 rfl (by decide) _ _ _ rfl HO4.out _ _ _ rfl HR4.out (HOne.out _) e3 e4 hs4 ?_; intro v5 w5 hown5 hgrow5 hnil5; clear hnil5))
        have bb5 : Below w.heap.size w w5 := HB4.out.grown hgrow5 hs4 (fun j hj => (World.ownsRow.lt HO4.out j hj).1)
        obtain ⟨a6, n6, c6, hv6⟩ := own_sl hown5
        subst hv6
        have HO5 : Hid (w5.ownsRow w.heap.size 9 1 (.slice a6 n6 c6) (out ++ rest.take kk ++ [x]).length (sv (out ++ rest.take kk ++ [x]))) := by
          show World.ownsRow _ _ _ _ _ _ _
          have e : (out ++ rest.take kk ++ [x]).length = out.length + kk + 1 := by have := HNr.out; simp; omega
          rw [e, sv_append, sv_append]; exact hown5
        have HLen : Hid ((out ++ rest.take kk ++ [x]).length = out.length + kk + 1) := by show _ = _; have := HNr.out; simp; omega
        have HB5 : Hid _ := bb5
        clear hown5 hgrow5 bb5 HO4 HB4 HR4
        cases fd with
        | true =>
          have hk1 : kk < nr := hfk rfl
          by_cases hcc : kk + 1 = cap
          · have hnn : nr = kk + 1 := by omega
            have HRn : Hid (rest.drop (kk + 1) = []) := List.drop_eq_nil_of_le (by have := HNr.out; omega)
            subst hcc
            go_wp2_with fail
            go_roundg (nl - (i + 1))
            case measure => omega
            case rel => exact ⟨i + 1, out ++ rest.take kk ++ [x], [], b, off, 0, 0, by go_num, by simp, by omega, Nat.le_refl _, by omega, by omega, Ln.nil _ _ _, (by show _ = _; rw [HX2.out, HU2.out]; simp [HRn.out]), (by have := HLen.out; omega), HO5.out, HB5.out⟩
          · have hkc : kk + 1 < cap := by omega
            go_wp2_with fail
            go_roundg (nl - (i + 1))
            case measure => omega
            case rel => exact ⟨i + 1, out ++ rest.take kk ++ [x], rest.drop (kk + 1), b, off + (kk + 1), nr - (kk + 1), cap - (kk + 1), by go_num, by simp, by omega, Nat.le_refl _, by omega, by omega, HPost.out (kk + 1) (by omega), (by show _ = _; rw [HX2.out, HU2.out]; simp), (by have := HLen.out; omega), HO5.out, HB5.out⟩
        | false =>
          by_cases hcc : kk = cap
          · have hnn : nr = kk := by omega
            have HRn : Hid (rest.drop kk = []) := List.drop_eq_nil_of_le (by have := HNr.out; omega)
            subst hcc
            go_wp2_with fail
            go_roundg (nl - (i + 1))
            case measure => omega
            case rel => exact ⟨i + 1, out ++ rest.take kk ++ [x], [], b, off, 0, 0, by go_num, by simp, by omega, Nat.le_refl _, by omega, by omega, Ln.nil _ _ _, (by show _ = _; rw [HX2.out, HU2.out]; simp [HRn.out]), (by have := HLen.out; omega), HO5.out, HB5.out⟩
          · have hkc : kk < cap := by omega
            go_wp2_with fail
            go_roundg (nl - (i + 1))
            case measure => omega
            case rel => exact ⟨i + 1, out ++ rest.take kk ++ [x], rest.drop kk, b, off + kk, nr - kk, cap - kk, by go_num, by simp, by omega, Nat.le_refl _, by omega, by omega, HPost.out kk (by omega), (by show _ = _; rw [HX2.out, HU2.out]; simp), (by have := HLen.out; omega), HO5.out, HB5.out⟩
      · have hltz : ¬ (i : Int) < (nl : Int) := by omega
        have hx := HX.out
        rw [List.take_of_length_le (by have := HNs.out; omega)] at hx
        have HE : Hid (uniL l m = out ++ rest) := by show _ = _; rw [HU.out]; unfold uniA; rw [← hx]
        have hnre := HL.out.hn
        have HP : Hid (RdsK 1 wr (.slice (some ⟨b, off, none⟩) nr cap) nr (sv rest)) := by
          have := (HL.out.below HB.out).pre (k := nr) (by omega)
          rw [List.take_of_length_le (by omega)] at this
          exact this
        have HNr : Hid _ := hnre
        obtain ⟨e1, e2⟩ := room_u (n := out.length + nr) (by omega)
        have hs3 : w.heap.size ≤ wr.heap.size := HB.out.size
        clear hx hnre
        go_wp2_with (first
          | (at_builtin; refine wpList_appK rfl _ _ 28 rfl w.heap.size 9 i0 (.string ⟨#[]⟩) 1 16 Try.underlying28 hi hz0 hz1 hz2 rfl (by decide) _ _ _ rfl HO.out _ _ _ rfl HP.out (HOne.out _) e1 e2 hs3 ?_; intro v4 w4 hown4 hgrow4 hnil4; clear hnil4))
        go_ret
        refine ⟨_, rfl, ?_, HB.out.grown hgrow4 hs3 (fun j hj => (World.ownsRow.lt HO.out j hj).1)⟩
        rw [HE.out, sv_append, List.length_append, ← HNr.out]
        exact hown4
  · have hswz : ¬ (nl : Int) < (nm : Int) := by omega
    have HU : Hid (uniL l m = uniA l m) := by show _ = _; unfold uniL; rw [if_neg (by have := HNs.out; omega)]
    go_upto_region 4 with (first
      | (at_make; refine wpList_make_own _ rfl _ _ 28 rfl w.heap.size 9 i0 (.string ⟨#[]⟩) 1 Try.underlying28 hi hz0 hz1 .i64 .i64 _ (nl + nm) rfl rfl (by omega) (by rw [hz2]; omega) (by unfold maxLen; omega) hs0 ?_; intro w0 hown0 hgrow0))
    have bb0 : Below w.heap.size w w0 := (Below.refl _ _).grown hgrow0 hs0 (fun j hj => by cases hj)
    have HO0 : Hid (w0.ownsRow w.heap.size 9 1 (.slice (some ⟨w.heap.size, 0, none⟩) 0 (nl + nm)) 0 []) := hown0
    have HB0 : Hid _ := bb0
    clear hown0 hgrow0 bb0
    go_wp2_with fail
    go_loopg [0, 5, 25] nm (fun kx v0 v5 vi wr => ∃ (i : Nat) (out rest : List Str) (b off nr cap : Nat), vi = .int .i64 i ∧ v0 = .slice (some ⟨b, off, none⟩) nr cap ∧ i ≤ nm ∧ nm - i ≤ kx ∧ nr ≤ cap ∧ cap ≤ 9223372036854775807 ∧ Hid (Ln w b off nr cap rest) ∧ Hid ((out, rest) = ((m).take i).foldl ust ([], l)) ∧ out.length + nr ≤ nl + i ∧ Hid (wr.ownsRow w.heap.size 9 1 v5 out.length (sv out)) ∧ Hid (Below w.heap.size w wr))
    case atStart => exact ⟨0, [], l, bl, ol, nl, cl, rfl, rfl, by omega, Nat.le_refl _, by omega, by omega, HLl.out, rfl, by simp, HO0.out, HB0.out⟩
    case round =>
      clear HO0 HB0
      obtain ⟨i, out, rest, b, off, nr, cap, rfl, rfl, hin, hkx, hnr, hcp, HL, HX, hlen, HO, HB⟩ := hrel
      obtain ⟨a5, n5, c5, hv5⟩ := own_sl HO.out
      subst hv5
      by_cases hlt : i < nm
      · have hltz : (i : Int) < (nm : Int) := by omega
        have hil : i < (m).length := by have := HNs.out; omega
        have q0 := (HLm.out.below HB.out).hc i hil
        have hgd : (m).getD i [] = (m)[i] := by simp [hil]
        rw [hgd] at q0
        have htk : (m).take (i + 1) = (m).take i ++ [(m)[i]] := List.take_succ_eq_append_getElem hil
        have HX2 : Hid (((m).take (i + 1)).foldl ust ([], l) = ust (out, rest) (m)[i]) := by show _ = _; rw [htk, List.foldl_append, ← HX.out]; rfl
        generalize (m)[i] = x at *
        have kS := search_any wr b off nr cap rest x (HL.out.below HB.out) (by omega)
        have hkl := bsL_le rest x
        have hfk : fndL rest x = true → bsL rest x < rest.length := fun hf => (of_decide_eq_true hf).1
        have HU2 : Hid (ust (out, rest) x = (out ++ rest.take (bsL rest x) ++ [x], rest.drop (bsL rest x + if fndL rest x then 1 else 0))) := rfl
        have hnre := HL.out.hn
        rw [← hnre] at hkl hfk
        generalize bsL rest x = kk at *
        have HP1 : Hid (RdsK 1 w (.slice (some ⟨b, off, none⟩) kk cap) kk (sv (rest.take kk))) := HL.out.pre (by omega)
        have HPost : Aside (∀ j, j ≤ nr → Ln w b (off + j) (nr - j) (cap - j) (rest.drop j)) := fun j hj => HL.out.post (by omega)
        obtain ⟨e1, e2⟩ := room_u (n := out.length + kk) (by omega)
        obtain ⟨e3, e4⟩ := room_u (n := out.length + kk + 1) (by omega)
        have hkz : (kk : Int) ≤ (cap : Int) := by omega
        have HNr : Hid _ := hnre
        generalize fndL rest x = fd at *
        clear hgd htk hnre
        go_wp2_with fail
        refine kS.mono ?_
        rintro e w3 ⟨rfl, q, rfl⟩
        have HO3 : Hid ((wr.drewN q).ownsRow w.heap.size 9 1 (.slice a5 n5 c5) out.length (sv out)) := own_below HO.out (Grows.drewN wr q).below
        have HB3 : Hid (Below w.heap.size w (wr.drewN q)) := HB.out.trans ((Grows.drewN wr q).below.mono HB.out.size)
        have HP3 : Hid (RdsK 1 (wr.drewN q) (.slice (some ⟨b, off, none⟩) kk cap) kk (sv (rest.take kk))) := RdsK.below HP1.out HB3.out
        have hs3 : w.heap.size ≤ (wr.drewN q).heap.size := HB3.out.size
        clear kS HO HB HP1
        go_upto_region 9 with (first
          | (at_builtin; refine wpList_appK rfl _ _ 28 rfl w.heap.size 9 i0 (.string ⟨#[]⟩) 1 16 Try.underlying28 hi hz0 hz1 hz2 rfl (by decide) _ _ _ rfl HO3.out _ _ _ rfl HP3.out (HOne.out _) e1 e2 hs3 ?_; intro v4 w4 hown4 hgrow4 hnil4; clear hnil4))
        have bb4 : Below w.heap.size w w4 := HB3.out.grown hgrow4 hs3 (fun j hj => (World.ownsRow.lt HO3.out j hj).1)
        obtain ⟨a4, n4, c4, hv4⟩ := own_sl hown4
        subst hv4
        have HO4 : Hid ((w4.alloc (.cells #[.string ⟨x.toArray⟩] 9)).ownsRow w.heap.size 9 1 (.slice a4 n4 c4) (out.length + kk) (sv out ++ sv (rest.take kk))) := own_below hown4 ((Below.refl _ _).alloc (Nat.le_refl _) _)
        have HB4 : Hid (Below w.heap.size w (w4.alloc (.cells #[.string ⟨x.toArray⟩] 9))) := bb4.alloc bb4.size _
        have HR4 : Hid (RdsK 1 (w4.alloc (.cells #[.string ⟨x.toArray⟩] 9)) (.slice (some ⟨w4.heap.size, 0, none⟩) 1 1) 1 (sv [x])) := one_rdS w4 x _ rfl
        have hs4 : w.heap.size ≤ (w4.alloc (.cells #[.string ⟨x.toArray⟩] 9)).heap.size := HB4.out.size
        clear hown4 hgrow4 bb4 HO3 HB3 HP3
        go_upto_region 10 with (first
          | (at_builtin; refine wpList_appK rfl _ _ 28 rfl w.heap.size 9 i0 (.string ⟨#[]⟩) 1 16 Try.underlying28 hi hz0 hz1 hz2 rfl (by decide) _ _ _ rfl HO4.out _ _ _ rfl HR4.out (HOne.out _) e3 e4 hs4 ?_; intro v5 w5 hown5 hgrow5 hnil5; clear hnil5))
        have bb5 : Below w.heap.size w w5 := HB4.out.grown hgrow5 hs4 (fun j hj => (World.ownsRow.lt HO4.out j hj).1)
        obtain ⟨a6, n6, c6, hv6⟩ := own_sl hown5
        subst hv6
        have HO5 : Hid (w5.ownsRow w.heap.size 9 1 (.slice a6 n6 c6) (out ++ rest.take kk ++ [x]).length (sv (out ++ rest.take kk ++ [x]))) := by
          show World.ownsRow _ _ _ _ _ _ _
          have e : (out ++ rest.take kk ++ [x]).length = out.length + kk + 1 := by have := HNr.out; simp; omega
          rw [e, sv_append, sv_append]; exact hown5
        have HLen : Hid ((out ++ rest.take kk ++ [x]).length = out.length + kk + 1) := by show _ = _; have := HNr.out; simp; omega
        have HB5 : Hid _ := bb5
        clear hown5 hgrow5 bb5 HO4 HB4 HR4
        cases fd with
        | true =>
          have hk1 : kk < nr := hfk rfl
          by_cases hcc : kk + 1 = cap
          · have hnn : nr = kk + 1 := by omega
            have HRn : Hid (rest.drop (kk + 1) = []) := List.drop_eq_nil_of_le (by have := HNr.out; omega)
            subst hcc
            go_wp2_with fail
            go_roundg (nm - (i + 1))
            case measure => omega
            case rel => exact ⟨i + 1, out ++ rest.take kk ++ [x], [], b, off, 0, 0, by go_num, by simp, by omega, Nat.le_refl _, by omega, by omega, Ln.nil _ _ _, (by show _ = _; rw [HX2.out, HU2.out]; simp [HRn.out]), (by have := HLen.out; omega), HO5.out, HB5.out⟩
          · have hkc : kk + 1 < cap := by omega
            go_wp2_with fail
            go_roundg (nm - (i + 1))
            case measure => omega
            case rel => exact ⟨i + 1, out ++ rest.take kk ++ [x], rest.drop (kk + 1), b, off + (kk + 1), nr - (kk + 1), cap - (kk + 1), by go_num, by simp, by omega, Nat.le_refl _, by omega, by omega, HPost.out (kk + 1) (by omega), (by show _ = _; rw [HX2.out, HU2.out]; simp), (by have := HLen.out; omega), HO5.out, HB5.out⟩
        | false =>
          by_cases hcc : kk = cap
          · have hnn : nr = kk := by omega
            have HRn : Hid (rest.drop kk = []) := List.drop_eq_nil_of_le (by have := HNr.out; omega)
            subst hcc
            go_wp2_with fail
            go_roundg (nm - (i + 1))
            case measure => omega
            case rel => exact ⟨i + 1, out ++ rest.take kk ++ [x], [], b, off, 0, 0, by go_num, by simp, by omega, Nat.le_refl _, by omega, by omega, Ln.nil _ _ _, (by show _ = _; rw [HX2.out, HU2.out]; simp [HRn.out]), (by have := HLen.out; omega), HO5.out, HB5.out⟩
          · have hkc : kk < cap := by omega
            go_wp2_with fail
            go_roundg (nm - (i + 1))
            case measure => omega
            case rel => exact ⟨i + 1, out ++ rest.take kk ++ [x], rest.drop kk, b, off + kk, nr - kk, cap - kk, by go_num, by simp, by omega, Nat.le_refl _, by omega, by omega, HPost.out kk (by omega), (by show _ = _; rw [HX2.out, HU2.out]; simp), (by have := HLen.out; omega), HO5.out, HB5.out⟩
      · have hltz : ¬ (i : Int) < (nm : Int) := by omega
        have hx := HX.out
        rw [List.take_of_length_le (by have := HNs.out; omega)] at hx
        have HE : Hid (uniL l m = out ++ rest) := by show _ = _; rw [HU.out]; unfold uniA; rw [← hx]
        have hnre := HL.out.hn
        have HP : Hid (RdsK 1 wr (.slice (some ⟨b, off, none⟩) nr cap) nr (sv rest)) := by
          have := (HL.out.below HB.out).pre (k := nr) (by omega)
          rw [List.take_of_length_le (by omega)] at this
          exact this
        have HNr : Hid _ := hnre
        obtain ⟨e1, e2⟩ := room_u (n := out.length + nr) (by omega)
        have hs3 : w.heap.size ≤ wr.heap.size := HB.out.size
        clear hx hnre
        go_wp2_with (first
          | (at_builtin; refine wpList_appK rfl _ _ 28 rfl w.heap.size 9 i0 (.string ⟨#[]⟩) 1 16 Try.underlying28 hi hz0 hz1 hz2 rfl (by decide) _ _ _ rfl HO.out _ _ _ rfl HP.out (HOne.out _) e1 e2 hs3 ?_; intro v4 w4 hown4 hgrow4 hnil4; clear hnil4))
        go_ret
        refine ⟨_, rfl, ?_, HB.out.grown hgrow4 hs3 (fun j hj => (World.ownsRow.lt HO.out j hj).1)⟩
        rw [HE.out, sv_append, List.length_append, ← HNr.out]
        exact hown4
end Go.Proofs.Ytkoihniggoelnaa
