/- Contracts: segments. -/
import Derived.Test.YtgbmigfamefenaaCpl
import Derived.Test.YtgbmigfamefenaaRegX
namespace Go.Proofs.Ytgbmigfamefenaa
open Go.RowKit Go.Maps Go.Sort
set_option linter.unusedVariables false

/-- The segments of a set. -/
def sgsOf (s : List Es) (k : K3) : List Sg := match s.find? (fun e => e.1 == k) with
  | some e => e.2.2.map fun p => (k, p, e.2.1)
  | none => []
def segL (s : List Es) (ks : List K3) : List Sg := ks.flatMap (sgsOf s)
def sgcs (l : List Sg) : List Value := l.flatMap sgc
theorem sgcs_append (l m : List Sg) : sgcs (l ++ m) = sgcs l ++ sgcs m := by simp [sgcs]
theorem sgcs_length (l : List Sg) : (sgcs l).length = l.length * 5 := by
  unfold sgcs
  induction l with
  | nil => rfl
  | cons a l ih => rw [List.flatMap_cons, List.length_append, ih]; simp [sgc]; omega
theorem find_one {w : World} {t : Nat} {F : Nat → Prop} {s : List Es} {mo : Option Nat} {Z : List En} (h : TlZ w t F s mo Z) {e : En} (he : e ∈ Z) : s.find? (fun x => x.1 == e.k) = some e.es := by
  rw [← h.fs, List.find?_map]
  have key : ∀ Z : List En, Z.Pairwise Apart → e ∈ Z → Z.find? ((fun x : Es => x.1 == e.k) ∘ En.es) = some e := by
    intro Z
    induction Z with
    | nil => intro _ h; cases h
    | cons z Z ih =>
      intro hp he
      obtain ⟨p1, p2⟩ := List.pairwise_cons.1 hp
      rcases List.mem_cons.1 he with q | q
      · subst q
        rw [List.find?_cons_of_pos (by simp [En.es])]
      · rw [List.find?_cons_of_neg (by simpa [En.es] using (p1 e q).1)]
        exact ih p2 q
  rw [key Z h.ap he]
  rfl
theorem find_none {w : World} {t : Nat} {F : Nat → Prop} {s : List Es} {mo : Option Nat} {Z : List En} (h : TlZ w t F s mo Z) {k : K3} (hk : ∀ e ∈ Z, e.k ≠ k) : s.find? (fun x => x.1 == k) = none := by
  rw [List.find?_eq_none, ← h.fs]
  intro x hx
  obtain ⟨e, he, rfl⟩ := List.mem_map.1 hx
  simpa [En.es] using hk e he
/-- What the map answers of a key. -/
theorem TlZ.look {w : World} {t : Nat} {F : Nat → Prop} {s : List Es} {mo : Option Nat} {Z : List En} (h : TlZ w t F s mo Z) (k : K3) (hb : B3 k) : ∃ (c : Int) (pv : Value) (pl : List Int),
    (∀ w', Below w.heap.size w w' → (Instr.lookup 61 (.map mo) (.agg #[.int .i64 k.1, .int .i64 k.2.1, .int .i64 k.2.2]) false).run Try.prog w' = .ok (.agg #[.int .i64 c, pv]) w' ∧ Rds w' pv (iv pl)) ∧ sgsOf s k = pl.map fun p => (k, p, c) := by
  by_cases hin : ∃ e ∈ Z, e.k = k
  · obtain ⟨e, he, rfl⟩ := hin
    refine ⟨e.core, e.v, e.ps, fun w' hw => ⟨look_in (h.below hw).m he (h.e e he).b3 (flat_own (h.e e he).o) false, own_iv ((h.below hw).e e he).o⟩, ?_⟩
    unfold sgsOf
    rw [find_one h he]
    rfl
  · have hk : ∀ e ∈ Z, e.k ≠ k := fun e he q => hin ⟨e, he, q⟩
    refine ⟨0, .slice none 0 0, [], fun w' hw => ⟨look_out (h.below hw).m hk hb false, Rds.nil _⟩, ?_⟩
    unfold sgsOf
    rw [find_none h hk]
    rfl
theorem Try.info_seg : (Try.prog.info? 32).map (fun i => (i.zero, i.size, i.bytes)) = some (some (.agg #[.int .i64 0, .int .i64 0, .int .i64 0, .int .i64 0, .int .i64 0]), 5, 40) := by kernel_rfl
theorem RdsK.at3 {w : World} {v : Value} {l : List K3} (h : RdsK 3 w v l.length (kcs l)) : ∃ a c, v = .slice a l.length c ∧ l.length ≤ c ∧ c ≤ maxLen ∧ (0 < l.length → ∃ b o, a = some ⟨b, o, none⟩ ∧ ∀ i (hi : i < l.length), w.cell? ⟨b, o + i * 3, none⟩ = some (.int .i64 l[i].1) ∧ w.cell? ⟨b, o + i * 3 + 1, none⟩ = some (.int .i64 l[i].2.1) ∧ w.cell? ⟨b, o + i * 3 + 2, none⟩ = some (.int .i64 l[i].2.2)) := by
  obtain ⟨ao, cap, rfl, h0, h1, h2, h3, h4⟩ := h
  refine ⟨ao, cap, rfl, h1, h2, fun hp => ?_⟩
  cases ao with
  | none => have := (h3 rfl).1; omega
  | some ad =>
    obtain ⟨b, off, sp⟩ := ad
    have hc : ∀ j u, (kcs l)[j]? = some u → _ := h4 _ rfl
    have hs : sp = none := by
      have hg : (kcs l)[0]? = some (.int .i64 l[0].1) := kcs_get l 0 0 hp (by omega)
      have := World.cell?_spot (hc 0 _ hg)
      simpa [Addr.add] using this
    subst hs
    refine ⟨b, off, rfl, fun i hi => ⟨?_, ?_, ?_⟩⟩
    · have := hc (i * 3 + 0) _ (kcs_get l i 0 hi (by omega))
      rw [Addr.add_lit] at this
      exact this
    · have := hc (i * 3 + 1) _ (kcs_get l i 1 hi (by omega))
      rw [Addr.add_lit, ← Nat.add_assoc] at this
      exact this
    · have := hc (i * 3 + 2) _ (kcs_get l i 2 hi (by omega))
      rw [Addr.add_lit, ← Nat.add_assoc] at this
      exact this
theorem below_setG {n g i : Nat} {W w : World} {u : Value} (h : Below n W w) (hg : n ≤ g) : Below n W (w.setCell ⟨g, i, none⟩ u) := by
  have k := grown_setCell (w := w) (R := g) (j := i) (u := u)
  exact ⟨k.os.trans h.os, k.tape.trans h.tape, k.output.trans h.output, Nat.le_trans h.size k.size, fun j hj => (Below.heap_setCell _ _ _ _ (by show j ≠ g; omega)).trans (h.block j hj)⟩
set_option maxRecDepth 100000 in
set_option maxHeartbeats 6400000 in
theorem segments_any (w : World) (t : Nat) (F : Nat → Prop) (s : List Es) (v : Value) (ks : List K3) (h : Tl w t F s) (hv : RdsK 3 w v ks.length (kcs ks)) (hb : ∀ k ∈ ks, B3 k) (hfew : (segL s ks).length ≤ 1000000) :
    Calls Try.prog 28 #[.pointer (some ⟨t, 0, none⟩), v] w fun ev w' => ∃ v', ev = .returned v' ∧ w'.ownsRow w.heap.size 32 5 v' (segL s ks).length (sgcs (segL s ks)) ∧ Below w.heap.size w w' := by
  have mixed : Try.prog.follows .mixedOrders = true := by kernel_rfl
  obtain ⟨i0, hi0, hi1, hi2, hi3⟩ := info_parts Try.info_seg
  obtain ⟨mo, Z, hz⟩ := h
  have HZ : Hid (TlZ w t F s mo Z) := hz
  obtain ⟨va, vc, rfl, hvc1, hvc2, hvc⟩ := hv.at3
  have HV : Hid (0 < ks.length → ∃ b o, va = some ⟨b, o, none⟩ ∧ ∀ i (hi : i < ks.length), w.cell? ⟨b, o + i * 3, none⟩ = some (.int .i64 ks[i].1) ∧ w.cell? ⟨b, o + i * 3 + 1, none⟩ = some (.int .i64 ks[i].2.1) ∧ w.cell? ⟨b, o + i * 3 + 2, none⟩ = some (.int .i64 ks[i].2.2)) := hvc
  have HB3 : Hid (∀ k ∈ ks, B3 k) := hb
  have HF : Hid ((segL s ks).length ≤ 1000000) := hfew
  obtain ⟨n, hn⟩ : ∃ n, n = ks.length := ⟨_, rfl⟩
  have HN : Hid (n = ks.length) := hn
  rw [← hn] at hvc1
  rw [← hn]
  unfold maxLen at hvc2
  clear hz hv hvc hb hfew hn
  go_enter Try.func28, Try.ntmps28
  go_wp2_with fail
  go_loopg [5, 7, 8, 10, 13] n (fun kx v5 _ _ _ v13 wr => ∃ (i : Nat) (acc : List Sg) (x5 : Value), x5 = v5 ∧ v13 = .int .i64 (i : Int) ∧ i ≤ n ∧ n - i ≤ kx ∧ Hid (acc = segL s (ks.take i)) ∧ Hid (wr.ownsRow w.heap.size 32 5 x5 acc.length (sgcs acc)) ∧ Hid (Below w.heap.size w wr))
  case atStart => exact ⟨0, [], _, rfl, rfl, Nat.zero_le _, Nat.le_refl _, rfl, ⟨rfl, .inl ⟨rfl, rfl⟩⟩, Below.refl _ _⟩
  case round =>
    obtain ⟨i, acc, x5, rfl, rfl, hi, hkx, HA, HO, HB⟩ := hrel
    by_cases hlt : i < n
    · have hltz : (i : Int) < (n : Int) := by omega
      have hil : i < ks.length := by have := HN.out; omega
      obtain ⟨vb, vo, rfl, hcs⟩ := HV.out (by omega)
      obtain ⟨q0, q1, q2⟩ := hcs i hil
      have hbk := HB3.out _ (List.getElem_mem hil)
      have htk : segL s (ks.take (i + 1)) = segL s (ks.take i) ++ sgsOf s ks[i] := by
        unfold segL
        rw [List.take_succ_eq_append_getElem hil, List.flatMap_append]
        simp
      have hle : (segL s (ks.take (i + 1))).length ≤ 1000000 := by
        have h1 : segL s ks = segL s (ks.take (i + 1)) ++ segL s (ks.drop (i + 1)) := by
          unfold segL
          rw [← List.flatMap_append, List.take_append_drop]
        have := HF.out
        rw [h1, List.length_append] at this
        omega
      obtain ⟨k, hk⟩ : ∃ k, k = ks[i] := ⟨_, rfl⟩
      rw [← hk] at q0 q1 q2 hbk htk
      obtain ⟨c, pv, pl, hlk, hsg⟩ := HZ.out.look k hbk
      have p0 : wr.cell? ⟨vb, vo + i * 3, none⟩ = some (.int .i64 k.1) := (HB.out.cell (World.block_lt_of_cell? _ _ q0)).trans q0
      have p1 : wr.cell? ⟨vb, vo + i * 3 + 1, none⟩ = some (.int .i64 k.2.1) := (HB.out.cell (World.block_lt_of_cell? _ _ q1)).trans q1
      have p2 : wr.cell? ⟨vb, vo + i * 3 + 2, none⟩ = some (.int .i64 k.2.2) := (HB.out.cell (World.block_lt_of_cell? _ _ q2)).trans q2
      have HSG : Hid (sgsOf s k = pl.map fun p => (k, p, c)) := hsg
      have HTK : Hid (segL s (ks.take (i + 1)) = segL s (ks.take i) ++ sgsOf s k) := htk
      have HLE : Hid ((segL s (ks.take (i + 1))).length ≤ 1000000) := hle
      obtain ⟨k1, k2, k3⟩ := k
      simp only at p0 p1 p2 hlk
      obtain ⟨W, hW⟩ : ∃ W, W = wr.alloc (.cells #[.int .i64 k1, .int .i64 k2, .int .i64 k3] 55) := ⟨_, rfl⟩
      have hbW : Below wr.heap.size wr W := by rw [hW]; exact (Below.refl _ _).alloc (Nat.le_refl _) _
      have hkW : BxA W wr.heap.size 55 #[.int .i64 k1, .int .i64 k2, .int .i64 k3] := by rw [hW]; exact BxA.new _ _ _
      have HRD : Hid ((∀ w', Below W.heap.size W w' → w'.cell? ⟨t, 0, none⟩ = some (.map mo)) ∧ (∀ w', Below W.heap.size W w' → w'.cell? ⟨wr.heap.size, 0, none⟩ = some (.int .i64 k1) ∧ w'.cell? ⟨wr.heap.size, 1, none⟩ = some (.int .i64 k2) ∧ w'.cell? ⟨wr.heap.size, 2, none⟩ = some (.int .i64 k3)) ∧ (∀ w', Below W.heap.size W w' → (Instr.lookup 61 (.map mo) (.agg #[.int .i64 k1, .int .i64 k2, .int .i64 k3]) false).run Try.prog w' = .ok (.agg #[.int .i64 c, pv]) w')) := by
        refine ⟨fun w' hb => (((HZ.out.below HB.out).below hbW).below hb).b.cell 0 _ rfl, fun w' hb => ?_, fun w' hb => (hlk w' (HB.out.trans ((hbW.trans (hb.mono hbW.size)).mono HB.out.size))).1⟩
        have hl := hkW.lt
        have hx : BxA w' wr.heap.size 55 #[.int .i64 k1, .int .i64 k2, .int .i64 k3] := by unfold BxA at hkW ⊢; rw [hb.block _ hl]; exact hkW
        exact ⟨hx.cell 0 _ rfl, hx.cell 1 _ rfl, hx.cell 2 _ rfl⟩
      have HW : Hid (W = wr.alloc (.cells #[.int .i64 k1, .int .i64 k2, .int .i64 k3] 55)) := hW
      have HLK : Hid (∀ w', Below w.heap.size w w' → Rds w' pv (iv pl)) := fun w' hb => (hlk w' hb).2
      have HBW : Hid (Below wr.heap.size wr W ∧ BxA W wr.heap.size 55 #[.int .i64 k1, .int .i64 k2, .int .i64 k3]) := ⟨hbW, hkW⟩
      obtain ⟨pa, pc, hpv, -⟩ := (hlk wr HB.out).2
      rw [iv_length] at hpv
      subst hpv
      have HW1 : Hid (wrap64 ((i : Int) + 1) = (i : Int) + 1) := by apply hide; rw [← IntWalk.i64_left, IntKind.wrap_i64]; omega
      clear hcs q0 q1 q2 hbk htk hle hk hlk hsg hW hbW hkW hil
      go_wp2_with fail
      rw [← HW.out]
      go_wp2_with fail
      have hSig0 : Below W.heap.size W W.drew := (Below.refl _ _).drew
      have hS00 : True := trivial
      refine wp_region_invF (β := Value × Value × Value × Value × Value × Value × Value) (fun a0 xq => (((((((a0.put (some 17) (xq.1)).put (some 18) (xq.2.1)).put (some 19) (xq.2.2.1)).put (some 20) (xq.2.2.2.1)).put (some 21) (xq.2.2.2.2.1)).put (some 22) (xq.2.2.2.2.2.1)).put (some 8) (xq.2.2.2.2.2.2))) ?fr17 (fun xq d w' => (Below W.heap.size W w') ∧ ((d 0 = true → (xq.1) = .pointer (some ⟨t, 0, none⟩)) ∧ (d 1 = true → (xq.2.1) = .pointer (some ⟨t, 0, none⟩)) ∧ (d 2 = true → (xq.2.2.1) = .pointer (some ⟨t, 0, none⟩)) ∧ (d 3 = true → (xq.2.2.2.1) = .map mo) ∧ (d 4 = true → (xq.2.2.2.2.1) = .agg #[.int .i64 k1, .int .i64 k2, .int .i64 k3]) ∧ (d 5 = true → (xq.2.2.2.2.2.1) = .agg #[.int .i64 c, .slice pa pl.length pc])) ∧ ∃ j : Nat, j ≤ 2 ∧ (d 6 = decide (0 < j) ∧ d 7 = decide (1 < j)) ∧ ((j = 0 → True) ∧ (j = 1 → ∃ g, (xq.2.2.2.2.2.2) = .pointer (some ⟨g, 0, none⟩) ∧ BxA w' g 67 #[.int .i64 0, .slice none 0 0] ∧ W.heap.size ≤ g) ∧ (j = 2 → ∃ g, (xq.2.2.2.2.2.2) = .pointer (some ⟨g, 0, none⟩) ∧ BxA w' g 67 #[.int .i64 c, .slice pa pl.length pc] ∧ W.heap.size ≤ g))) ?lay17 mixed (by kernel_rfl) ?h017 ?hs17 ?he17
      case lay17 =>
        intro xq
        simp only [Act.put, List.setIfInBounds_toArray, List.set_cons_zero, List.set_cons_succ]
        rfl
      case h017 =>
        refine ⟨(u17, u18, u19, u20, u21, u22, u8), rfl, ?sig17, ⟨(fun h => by cases h), (fun h => by cases h), (fun h => by cases h), (fun h => by cases h), (fun h => by cases h), (fun h => by cases h)⟩, 0, Nat.zero_le _, ⟨rfl, rfl⟩, ?S017, (fun h => by cases h), (fun h => by cases h)⟩
        case sig17 => exact hSig0
        case S017 => exact fun _ => hS00
      case hs17 =>
        refine ⟨?_, ?_, ?_, ?_, ?_, ?_, ?_, ?_, trivial⟩
        · rintro d ⟨x17, x18, x19, x20, x21, x22, x8⟩ w' hI hd hdp KQ hK
          dsimp only at hI
          obtain ⟨hS, ⟨f0, f1, f2, f3, f4, f5⟩, j, hj, ⟨dd6, dd7⟩, ⟨p0, p1, p2⟩⟩ := hI
          have HF : Hid _ := And.intro hS (And.intro (And.intro f0 (And.intro f1 (And.intro f2 (And.intro f3 (And.intro f4 f5))))) (And.intro hj (And.intro (And.intro dd6 dd7) (And.intro p0 (And.intro p1 p2)))))
          clear hS f0 f1 f2 f3 f4 f5 hj dd6 dd7 p0 p1 p2 hdp hd
          refine Opn.mk ?_
          dsimp only
          go_simp
          obtain ⟨hS, ⟨f0, f1, f2, f3, f4, f5⟩, hj, ⟨dd6, dd7⟩, ⟨p0, p1, p2⟩⟩ := HF.out
          exact hK.out (.pointer (some ⟨t, 0, none⟩), x18, x19, x20, x21, x22, x8) _ ⟨hS, ⟨(fun _ => rfl), (fun h => f1 (upd_ne h (by decide))), (fun h => f2 (upd_ne h (by decide))), (fun h => f3 (upd_ne h (by decide))), (fun h => f4 (upd_ne h (by decide))), (fun h => f5 (upd_ne h (by decide)))⟩, j, hj, ⟨((upd_no (by decide)).trans dd6), ((upd_no (by decide)).trans dd7)⟩, ⟨p0, p1, p2⟩⟩
        · rintro d ⟨x17, x18, x19, x20, x21, x22, x8⟩ w' hI hd hdp KQ hK
          dsimp only at hI
          obtain ⟨hS, ⟨f0, f1, f2, f3, f4, f5⟩, j, hj, ⟨dd6, dd7⟩, ⟨p0, p1, p2⟩⟩ := hI
          obtain rfl := f0 (hdp 0 (by decide +kernel))
          have HF : Hid _ := And.intro hS (And.intro (And.intro f0 (And.intro f1 (And.intro f2 (And.intro f3 (And.intro f4 f5))))) (And.intro hj (And.intro (And.intro dd6 dd7) (And.intro p0 (And.intro p1 p2)))))
          clear hS f0 f1 f2 f3 f4 f5 hj dd6 dd7 p0 p1 p2 hdp hd
          refine Opn.mk ?_
          dsimp only
          go_simp
          obtain ⟨hS, ⟨f0, f1, f2, f3, f4, f5⟩, hj, ⟨dd6, dd7⟩, ⟨p0, p1, p2⟩⟩ := HF.out
          exact hK.out (.pointer (some ⟨t, 0, none⟩), .pointer (some ⟨t, 0, none⟩), x19, x20, x21, x22, x8) _ ⟨hS, ⟨(fun _ => rfl), (fun _ => rfl), (fun h => f2 (upd_ne h (by decide))), (fun h => f3 (upd_ne h (by decide))), (fun h => f4 (upd_ne h (by decide))), (fun h => f5 (upd_ne h (by decide)))⟩, j, hj, ⟨((upd_no (by decide)).trans dd6), ((upd_no (by decide)).trans dd7)⟩, ⟨p0, p1, p2⟩⟩
        · rintro d ⟨x17, x18, x19, x20, x21, x22, x8⟩ w' hI hd hdp KQ hK
          dsimp only at hI
          obtain ⟨hS, ⟨f0, f1, f2, f3, f4, f5⟩, j, hj, ⟨dd6, dd7⟩, ⟨p0, p1, p2⟩⟩ := hI
          obtain rfl := f1 (hdp 1 (by decide +kernel))
          have HF : Hid _ := And.intro hS (And.intro (And.intro f0 (And.intro f1 (And.intro f2 (And.intro f3 (And.intro f4 f5))))) (And.intro hj (And.intro (And.intro dd6 dd7) (And.intro p0 (And.intro p1 p2)))))
          clear hS f0 f1 f2 f3 f4 f5 hj dd6 dd7 p0 p1 p2 hdp hd
          refine Opn.mk ?_
          dsimp only
          go_simp
          obtain ⟨hS, ⟨f0, f1, f2, f3, f4, f5⟩, hj, ⟨dd6, dd7⟩, ⟨p0, p1, p2⟩⟩ := HF.out
          exact hK.out (x17, .pointer (some ⟨t, 0, none⟩), .pointer (some ⟨t, 0, none⟩), x20, x21, x22, x8) _ ⟨hS, ⟨(fun h => f0 (upd_ne h (by decide))), (fun _ => rfl), (fun _ => rfl), (fun h => f3 (upd_ne h (by decide))), (fun h => f4 (upd_ne h (by decide))), (fun h => f5 (upd_ne h (by decide)))⟩, j, hj, ⟨((upd_no (by decide)).trans dd6), ((upd_no (by decide)).trans dd7)⟩, ⟨p0, p1, p2⟩⟩
        · rintro d ⟨x17, x18, x19, x20, x21, x22, x8⟩ w' hI hd hdp KQ hK
          dsimp only at hI
          obtain ⟨hS, ⟨f0, f1, f2, f3, f4, f5⟩, j, hj, ⟨dd6, dd7⟩, ⟨p0, p1, p2⟩⟩ := hI
          obtain rfl := f2 (hdp 2 (by decide +kernel))
          have cc := HRD.out.1 w' hS
          have HF : Hid _ := And.intro hS (And.intro (And.intro f0 (And.intro f1 (And.intro f2 (And.intro f3 (And.intro f4 f5))))) (And.intro hj (And.intro (And.intro dd6 dd7) (And.intro p0 (And.intro p1 p2)))))
          clear hS f0 f1 f2 f3 f4 f5 hj dd6 dd7 p0 p1 p2 hdp hd
          refine Opn.mk ?_
          dsimp only
          go_simp
          obtain ⟨hS, ⟨f0, f1, f2, f3, f4, f5⟩, hj, ⟨dd6, dd7⟩, ⟨p0, p1, p2⟩⟩ := HF.out
          exact hK.out (x17, x18, .pointer (some ⟨t, 0, none⟩), .map mo, x21, x22, x8) _ ⟨hS, ⟨(fun h => f0 (upd_ne h (by decide))), (fun h => f1 (upd_ne h (by decide))), (fun _ => rfl), (fun _ => rfl), (fun h => f4 (upd_ne h (by decide))), (fun h => f5 (upd_ne h (by decide)))⟩, j, hj, ⟨((upd_no (by decide)).trans dd6), ((upd_no (by decide)).trans dd7)⟩, ⟨p0, p1, p2⟩⟩
        · rintro d ⟨x17, x18, x19, x20, x21, x22, x8⟩ w' hI hd hdp KQ hK
          dsimp only at hI
          obtain ⟨hS, ⟨f0, f1, f2, f3, f4, f5⟩, j, hj, ⟨dd6, dd7⟩, ⟨p0, p1, p2⟩⟩ := hI
          obtain ⟨cc0, cc1, cc2⟩ := HRD.out.2.1 w' hS
          have HF : Hid _ := And.intro hS (And.intro (And.intro f0 (And.intro f1 (And.intro f2 (And.intro f3 (And.intro f4 f5))))) (And.intro hj (And.intro (And.intro dd6 dd7) (And.intro p0 (And.intro p1 p2)))))
          clear hS f0 f1 f2 f3 f4 f5 hj dd6 dd7 p0 p1 p2 hdp hd
          refine Opn.mk ?_
          dsimp only
          go_simp
          obtain ⟨hS, ⟨f0, f1, f2, f3, f4, f5⟩, hj, ⟨dd6, dd7⟩, ⟨p0, p1, p2⟩⟩ := HF.out
          exact hK.out (x17, x18, x19, x20, .agg #[.int .i64 k1, .int .i64 k2, .int .i64 k3], x22, x8) _ ⟨hS, ⟨(fun h => f0 (upd_ne h (by decide))), (fun h => f1 (upd_ne h (by decide))), (fun h => f2 (upd_ne h (by decide))), (fun h => f3 (upd_ne h (by decide))), (fun _ => rfl), (fun h => f5 (upd_ne h (by decide)))⟩, j, hj, ⟨((upd_no (by decide)).trans dd6), ((upd_no (by decide)).trans dd7)⟩, ⟨p0, p1, p2⟩⟩
        · rintro d ⟨x17, x18, x19, x20, x21, x22, x8⟩ w' hI hd hdp KQ hK
          dsimp only at hI
          obtain ⟨hS, ⟨f0, f1, f2, f3, f4, f5⟩, j, hj, ⟨dd6, dd7⟩, ⟨p0, p1, p2⟩⟩ := hI
          obtain rfl := f3 (hdp 3 (by decide +kernel))
          obtain rfl := f4 (hdp 4 (by decide +kernel))
          have cl := HRD.out.2.2 w' hS
          have HF : Hid _ := And.intro hS (And.intro (And.intro f0 (And.intro f1 (And.intro f2 (And.intro f3 (And.intro f4 f5))))) (And.intro hj (And.intro (And.intro dd6 dd7) (And.intro p0 (And.intro p1 p2)))))
          clear hS f0 f1 f2 f3 f4 f5 hj dd6 dd7 p0 p1 p2 hdp hd
          refine Opn.mk ?_
          dsimp only
          go_simp
          obtain ⟨hS, ⟨f0, f1, f2, f3, f4, f5⟩, hj, ⟨dd6, dd7⟩, ⟨p0, p1, p2⟩⟩ := HF.out
          exact hK.out (x17, x18, x19, .map mo, .agg #[.int .i64 k1, .int .i64 k2, .int .i64 k3], .agg #[.int .i64 c, .slice pa pl.length pc], x8) _ ⟨hS, ⟨(fun h => f0 (upd_ne h (by decide))), (fun h => f1 (upd_ne h (by decide))), (fun h => f2 (upd_ne h (by decide))), (fun _ => rfl), (fun _ => rfl), (fun _ => rfl)⟩, j, hj, ⟨((upd_no (by decide)).trans dd6), ((upd_no (by decide)).trans dd7)⟩, ⟨p0, p1, p2⟩⟩
        · rintro d ⟨x17, x18, x19, x20, x21, x22, x8⟩ w' hI hd hdp KQ hK
          dsimp only at hI
          obtain ⟨hS, ⟨f0, f1, f2, f3, f4, f5⟩, j, hj, ⟨dd6, dd7⟩, ⟨p0, p1, p2⟩⟩ := hI
          obtain rfl := ph_zero dd6 hd
          have s := p0 rfl
          clear p0 p1 p2 hj
          have HG : Hid _ := And.intro hS s
          clear hS s
          have HF : Hid _ := And.intro (And.intro f0 (And.intro f1 (And.intro f2 (And.intro f3 (And.intro f4 f5))))) (And.intro dd6 dd7)
          clear f0 f1 f2 f3 f4 f5 dd6 dd7 hdp hd
          refine Opn.mk ?_
          dsimp only
          go_simp
          obtain ⟨hS, s⟩ := HG.out
          obtain ⟨⟨f0, f1, f2, f3, f4, f5⟩, ⟨dd6, dd7⟩⟩ := HF.out
          refine hK.out (x17, x18, x19, x20, x21, x22, .pointer (some ⟨w'.heap.size, 0, none⟩)) _ ⟨?sg, ⟨(fun h => f0 (upd_ne h (by decide))), (fun h => f1 (upd_ne h (by decide))), (fun h => f2 (upd_ne h (by decide))), (fun h => f3 (upd_ne h (by decide))), (fun h => f4 (upd_ne h (by decide))), (fun h => f5 (upd_ne h (by decide)))⟩, 1, by decide, ⟨(by simp [upd]), ((upd_no (by decide)).trans (dd7.trans (by decide)))⟩, ⟨(fun h => absurd h (by decide)), (fun _ => ?new), (fun h => absurd h (by decide))⟩⟩
          case sg => exact hS.trans (((Below.refl _ _).alloc (Nat.le_refl _) _).mono hS.size)
          case new =>
            exact ⟨_, rfl, BxA.new _ _ _, hS.size⟩
        · rintro d ⟨x17, x18, x19, x20, x21, x22, x8⟩ w' hI hd hdp KQ hK
          dsimp only at hI
          obtain ⟨hS, ⟨f0, f1, f2, f3, f4, f5⟩, j, hj, ⟨dd6, dd7⟩, ⟨p0, p1, p2⟩⟩ := hI
          obtain rfl := f5 (hdp 5 (by decide +kernel))
          obtain rfl := ph_eq (k := 0) dd7 hd dd6 (hdp 6 (by decide +kernel))
          have s := p1 rfl
          clear p0 p1 p2 hj
          obtain ⟨g, ea, hx, hg⟩ := s
          subst ea
          have cg0 := hx.cell 0 _ rfl
          have cg1 := hx.cell 1 _ rfl
          have cf0 := hx.free 0
          have cf1 := hx.free 1
          have HG : Hid _ := And.intro hS (And.intro hx hg)
          clear hS hx hg
          have HF : Hid _ := And.intro (And.intro f0 (And.intro f1 (And.intro f2 (And.intro f3 (And.intro f4 f5))))) (And.intro dd6 dd7)
          clear f0 f1 f2 f3 f4 f5 dd6 dd7 hdp hd
          refine Opn.mk ?_
          dsimp only
          go_simp
          obtain ⟨hS, hx, hg⟩ := HG.out
          obtain ⟨⟨f0, f1, f2, f3, f4, f5⟩, ⟨dd6, dd7⟩⟩ := HF.out
          refine hK.out (x17, x18, x19, x20, x21, .agg #[.int .i64 c, .slice pa pl.length pc], .pointer (some ⟨g, 0, none⟩)) _ ⟨?sg, ⟨(fun h => f0 (upd_ne h (by decide))), (fun h => f1 (upd_ne h (by decide))), (fun h => f2 (upd_ne h (by decide))), (fun h => f3 (upd_ne h (by decide))), (fun h => f4 (upd_ne h (by decide))), (fun _ => rfl)⟩, 2, by decide, ⟨((upd_no (by decide)).trans (dd6.trans (by decide))), (by simp [upd])⟩, ⟨(fun h => absurd h (by decide)), (fun h => absurd h (by decide)), (fun _ => ?new)⟩⟩
          case sg => exact below_setG (below_setG hS hg) hg
          case new =>
            exact ⟨_, rfl, BxA.set (BxA.set hx 0 _) 1 _, hg⟩
      case he17 =>
        rintro d ⟨x17, x18, x19, x20, x21, x22, x8⟩ w' hall hI
        dsimp only at hI
        obtain ⟨hS, ⟨f0, f1, f2, f3, f4, f5⟩, j, hj, ⟨dd6, dd7⟩, ⟨p0, p1, p2⟩⟩ := hI
        obtain rfl := ph_end (k := 1) hj dd7 (hall 7 (by decide))
        have s := p2 rfl
        clear hall hj f0 f1 f2 f3 f4 f5 dd6 dd7 p0 p1 p2
        obtain ⟨g, ea, hx, hg⟩ := s
        subst ea
        have HX : Hid (BxA w' g 67 #[.int .i64 c, .slice pa pl.length pc] ∧ W.heap.size ≤ g ∧ Below W.heap.size W w') := ⟨hx, hg, hS⟩
        have HBw : Hid (Below wr.heap.size wr w') := HBW.out.1.trans (hS.mono HBW.out.1.size)
        have g1 := hx.cell 1 _ rfl
        have HO' : Hid (w'.ownsRow w.heap.size 32 5 x5 acc.length (sgcs acc)) := by
          apply hide
          exact owns_block HO.out fun r hr => HBw.out.block r (own_lt HO.out r hr).2
        obtain ⟨pn, hpn⟩ : ∃ n, n = pl.length := ⟨_, rfl⟩
        have HPN : Hid (pn = pl.length) := hpn
        rw [← hpn] at g1
        clear hS hx hg hSig0 hS00 hpn p0 p1 p2
        dsimp only
        go_wp2_with fail
        go_loopg [5, 10, 26] pn (fun kx v5 _ v26 wq => ∃ (j : Nat) (ac2 : List Sg) (y5 : Value), y5 = v5 ∧ v26 = .int .i64 (j : Int) ∧ j ≤ pn ∧ pn - j ≤ kx ∧ Hid (ac2 = acc ++ (pl.take j).map fun p => ((k1, k2, k3), p, c)) ∧ Hid (wq.ownsRow w.heap.size 32 5 y5 ac2.length (sgcs ac2)) ∧ Hid (Below w.heap.size w wq) ∧ Hid (∀ i, i < w'.heap.size → x5.ownBlock ≠ some i → wq.heap[i]? = w'.heap[i]?) ∧ Hid (∀ r, y5.ownBlock = some r → x5.ownBlock = some r ∨ w'.heap.size ≤ r))
        case atStart => exact ⟨0, acc, _, rfl, rfl, Nat.zero_le _, Nat.le_refl _, by apply hide; simp, HO', HB.out.trans (HBw.out.mono HB.out.size), fun _ _ _ => rfl, fun r hr => .inl hr⟩
        case round =>
          rename World => wq
          obtain ⟨j, ac2, y5, rfl, rfl, hj, hkx2, HA2, HO2, HBq, HK, HYB⟩ := hrel
          by_cases hjl : j < pn
          · have hjz : (j : Int) < (pn : Int) := by omega
            have hjp : j < pl.length := by have := HPN.out; omega
            have hrq := HLK.out wq HBq.out
            obtain ⟨-, hpc1, hpc2, hpx⟩ := hrq.cells
            rw [iv_length] at hpc1 hpx
            obtain ⟨pb, po, rfl, hpq⟩ := hpx (by omega)
            have r0 := hpq j _ (iv_get pl j hjp)
            have hx5 : ∀ r, x5.ownBlock = some r → r < wr.heap.size := fun r hr => (own_lt HO.out r hr).2
            have hWs : wr.heap.size < W.heap.size := BxA.lt HBW.out.2
            have hkq : BxA wq wr.heap.size 55 #[.int .i64 k1, .int .i64 k2, .int .i64 k3] := by
              unfold BxA
              rw [HK.out _ (by have := HX.out.2.2.size; omega) (fun q => by have := hx5 _ q; omega), HX.out.2.2.block _ hWs]
              exact HBW.out.2
            have hgq : BxA wq g 67 #[.int .i64 c, .slice (some ⟨pb, po, none⟩) pl.length pc] := by
              unfold BxA
              rw [HK.out _ (BxA.lt HX.out.1) (fun q => by have := hx5 _ q; have := HX.out.2.1; omega)]
              exact HX.out.1
            have e0 := hkq.cell 0 _ rfl
            have e1 := hkq.cell 1 _ rfl
            have e2 := hkq.cell 2 _ rfl
            have e3 := hgq.cell 0 _ rfl
            obtain ⟨p, hp⟩ : ∃ p, p = pl.getD j 0 := ⟨_, rfl⟩
            rw [← hp] at r0
            have hap : (pl.take (j + 1)).map (fun p => ((k1, k2, k3), p, c)) = (pl.take j).map (fun p => (((k1, k2, k3), p, c) : Sg)) ++ [((k1, k2, k3), p, c)] := by
              rw [List.take_succ_eq_append_getElem hjp, List.map_append, hp]
              simp [hjp]
            have HAP : Hid _ := hap
            have hal : ac2.length + 1 ≤ 1000000 := by
              have h1 := HLE.out
              rw [HTK.out, HSG.out, ← HA.out, List.length_append, List.length_map] at h1
              rw [HA2.out, List.length_append, List.length_map, List.length_take]
              omega
            obtain ⟨w4, hw4⟩ : ∃ w4, w4 = wq.alloc (.cells #[.int .i64 k1, .int .i64 k2, .int .i64 k3, .int .i64 p, .int .i64 c] 32) := ⟨_, rfl⟩
            have HLO : Hid (RdsK 5 w4 (.slice (some ⟨wq.heap.size, 0, none⟩) 1 1) 1 [.int .i64 k1, .int .i64 k2, .int .i64 k3, .int .i64 p, .int .i64 c]) := by apply hide; rw [hw4]; exact RdsK.of_own (lit_ownK wq [.int .i64 k1, .int .i64 k2, .int .i64 k3, .int .i64 p, .int .i64 c] 32 1 5 rfl (by simp [maxLen]))
            have HAO : Hid (w4.ownsRow w.heap.size 32 5 y5 ac2.length (sgcs ac2)) := by apply hide; rw [hw4]; exact World.ownsRow.alloc HO2.out _
            have HW4 : Hid (w4 = wq.alloc (.cells #[.int .i64 k1, .int .i64 k2, .int .i64 k3, .int .i64 p, .int .i64 c] 32)) := hw4
            have hsz4 : w.heap.size ≤ w4.heap.size := by rw [hw4]; have := HBq.out.size; simp; omega
            unfold maxLen at hpc2
            have hjp2 : pn ≤ pc := by have := HPN.out; omega
            have HW2 : Hid (wrap64 ((j : Int) + 1) = (j : Int) + 1) := by apply hide; rw [← IntWalk.i64_left, IntKind.wrap_i64]; omega
            clear hrq hpx hpq hkq hgq hp hap hw4 hpc1 hx5 hWs
            go_wp2_with (first | (at_builtin; rw [← HW4.out]; refine wpList_appF rfl _ _ 22 rfl w.heap.size 32 i0 (.agg #[.int .i64 0, .int .i64 0, .int .i64 0, .int .i64 0, .int .i64 0]) 5 40 Try.underlying22 hi0 hi1 hi2 hi3 rfl (by decide) y5 ac2.length (sgcs ac2) rfl HAO.out (.slice (some ⟨wq.heap.size, 0, none⟩) 1 1) 1 [.int .i64 k1, .int .i64 k2, .int .i64 k3, .int .i64 p, .int .i64 c] rfl HLO.out (fun u hu => by simp at hu; rcases hu with rfl | rfl | rfl | rfl | rfl <;> rfl) (by unfold maxLen; omega) (by omega) hsz4 ?_; intro v6 w6 o6 g6 hx6; have H6 : Hid (w6.ownsRow w.heap.size 32 5 v6 (ac2.length + 1) (sgcs ac2 ++ [.int .i64 k1, .int .i64 k2, .int .i64 k3, .int .i64 p, .int .i64 c]) ∧ w4.grownBy w6 y5.ownBlock) := ⟨o6, g6⟩; have HX6 : Hid _ := hx6; clear o6 g6 hx6))
            obtain ⟨o6, g6⟩ := H6.out
            have gA : wq.grownBy w6 y5.ownBlock := grown_trans (by rw [HW4.out]; exact grown_alloc _ _ _) g6
            have hyb : ∀ r, y5.ownBlock = some r → w.heap.size ≤ r := fun r hr => (own_lt HO2.out r hr).1
            have s4 : wq.heap.size ≤ w4.heap.size := by rw [HW4.out]; simp
            have s5 : w'.heap.size ≤ wq.heap.size := by
              rcases Nat.lt_or_ge wq.heap.size w'.heap.size with q | q
              · exfalso
                have h1 : wq.heap[wq.heap.size]? = none := by simp
                have h2 : w'.heap[wq.heap.size]? ≠ none := by simp [q]
                by_cases h3 : x5.ownBlock = some wq.heap.size
                · have h4 := (own_lt HO.out _ h3).2
                  have h5 := HBW.out.1.size
                  have h6 := HX.out.2.2.size
                  have h7 := (own_lt HO'.out _ h3)
                  have h8 := HBq.out.size
                  have h9 : wr.heap.size < W.heap.size := BxA.lt HBW.out.2
                  have h10 := HK.out wr.heap.size (by omega) (fun q2 => by rw [h3] at q2; simp only [Option.some.injEq] at q2; omega)
                  have h11 : wq.heap[wr.heap.size]? = none := by simp; omega
                  rw [h11] at h10
                  have h12 : w'.heap[wr.heap.size]? ≠ none := by simp; omega
                  exact h12 h10.symm
                · exact h2 ((HK.out _ q h3).symm.trans h1)
              · exact q
            go_roundg (pn - (j + 1))
            case measure => exact Nat.lt_of_lt_of_le (Nat.sub_lt_sub_left hjl (Nat.lt_succ_self j)) hkx2
            case rel =>
              refine ⟨j + 1, ac2 ++ [((k1, k2, k3), p, c)], v6, rfl, by first | (rw [HW2.out]; rfl) | rfl, hjl, Nat.le_refl _, ?_, ?_, ?_, ?_, ?_⟩
              · apply hide
                rw [HA2.out, HAP.out, List.append_assoc]
              · apply hide
                rw [sgcs_append, List.length_append]
                exact o6
              · refine HBq.out.trans ⟨gA.os, gA.tape, gA.output, gA.size, fun i hi => gA.block i (by have := HBq.out.size; omega) fun q => ?_⟩
                have h1 := hyb i q.symm
                omega
              · intro i hi hne
                refine (gA.block i (by omega) fun q => ?_).trans (HK.out i hi hne)
                rcases HYB.out i q.symm with r | r
                · exact hne r
                · omega
              · intro r hr
                rcases HX6.out with q | ⟨g2, q, hq⟩
                · rw [q] at hr
                  exact HYB.out r hr
                · rw [q] at hr
                  cases hr
                  exact .inr (by omega)
          · have hjz : ¬ (j : Int) < (pn : Int) := by omega
            go_wp2_with fail
            go_roundg (n - (i + 1))
            case measure => exact Nat.lt_of_lt_of_le (Nat.sub_lt_sub_left hlt (Nat.lt_succ_self i)) hkx
            case rel =>
              refine ⟨i + 1, ac2, y5, rfl, by first | (rw [HW1.out]; rfl) | rfl, hlt, Nat.le_refl _, ?_, HO2, HBq⟩
              apply hide
              rw [HA2.out, HTK.out, HSG.out, ← HA.out, List.take_of_length_le (by have := HPN.out; omega)]
    · have hltz : ¬ (i : Int) < (n : Int) := by omega
      go_wp2_with fail
      go_ret
      have e1 : segL s ks = acc := by rw [HA.out, List.take_of_length_le (by have := HN.out; omega)]
      rw [e1]
      exact ⟨_, rfl, HO.out, HB.out⟩
end Go.Proofs.Ytgbmigfamefenaa
