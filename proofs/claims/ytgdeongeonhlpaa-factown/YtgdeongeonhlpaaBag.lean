/- The contract of bagOf. -/
import Derived.Test.YtgdeongeonhlpaaGMath
namespace Go.Proofs.Ytgdeongeonhlpaa
open Go.RowKit Go.Sort

theorem one_rds (w : World) (e : En) (B : Nat) (hB : B = w.heap.size) : RdsK 4 (w.alloc (.cells #[.int .i64 e.f.t, e.f.dv, e.f.mv, .int .u64 e.n] 46)) (.slice (some ⟨B, 0, none⟩) 1 1) 1 (ev [e]) := by
  subst hB
  refine ⟨some ⟨w.heap.size, 0, none⟩, 1, rfl, by simp [ev, En.cells], Nat.le_refl _, by decide, (fun h => by cases h), ?_⟩
  rintro ad ⟨rfl⟩ j u hj
  rw [Addr.add_lit, Nat.zero_add]
  have hj4 : j < 4 := by
    have := (List.getElem?_eq_some_iff.1 hj).1
    simpa [ev, En.cells] using this
  have : j = 0 ∨ j = 1 ∨ j = 2 ∨ j = 3 := by omega
  rcases this with rfl | rfl | rfl | rfl <;> simpa [ev, En.cells] using hj

set_option maxHeartbeats 4000000 in
set_option maxRecDepth 100000 in
theorem bagOf_any (w : World) (v : Value) (l : List En) (h : RdsM w v l) (hbig : l.length * 64 ≤ 160842843834660) :
    Calls Try.prog 32 #[v] w fun e w' => ∃ v', e = .returned v' ∧ ∃ l', OwnM w' w.heap.size v' l' ∧ l'.length ≤ l.length ∧ IsBag (rows l) (rows l') ∧ Below w.heap.size w w' := by
  obtain ⟨i0, hi, hy0, hy1, hy2⟩ := info_parts Try.info_many
  have kC := clone_many w v l.length (ev l) h.r (ev_one h.ok) hbig
  have hok := h.ok
  obtain ⟨ao0, n0, cap0, rfl⟩ := h.sl
  have n0e := h.len.1
  subst n0e
  have HO : Aside (∀ e ∈ l, e.Ok w) := hok
  clear h hok
  go_enter Try.func32, Try.ntmps32
  go_wp2_with fail
  refine kC.mono ?_
  rintro e w1 ⟨v1, rfl, o1, b1⟩
  clear kC
  obtain ⟨a1, n1, c1, rfl⟩ := own_sl o1
  have kS := sort_many w w1 w.heap.size _ l o1 HO.out b1 (Nat.le_refl _) b1.size (by omega)
  go_wp2_with fail
  refine kS.mono ?_
  rintro e w2 ⟨rfl, s, hp, hsrt, hr, b2⟩
  have bW : Below w.heap.size w w2 := b1.trans b2
  have hsl : s.length = l.length := hp.length_eq
  have hm : RdsM w2 (.slice a1 n1 c1) s := ⟨hr, fun e he => (HO.out e (hp.mem_iff.1 he)).below bW⟩
  obtain ⟨hn1, hc1, hc2⟩ := hm.len
  have hn1' : n1 = l.length := hn1.trans hsl
  have HP : Hid (s.Perm l ∧ Srt s ∧ n1 = s.length) := ⟨hp, hsrt, hn1⟩
  have HM : Hid (RdsM w2 (.slice a1 n1 c1) s) := hm
  have HB : Hid (Below w.heap.size w w2) := bW
  have hbn : n1 * 64 ≤ 160842843834660 := by omega
  have HL : Hid (n1 = l.length) := hn1'
  unfold maxLen at hc2
  have hw0 : w.heap.size ≤ w2.heap.size := bW.size
  clear kS o1 b1 b2 hr hp hsrt hsl hm hn1 hn1' bW
  have og := own_made0 w2 46 4
  go_wp2_with fail
  go_loopg [4, 5] n1 (fun kx v4 v5 wr => ∃ (F : Nat) (out : List En), v5 = .int .i64 F ∧ F ≤ n1 ∧ n1 - F ≤ kx ∧ out.length ≤ F ∧ OwnM wr w2.heap.size v4 out ∧ Hid (Grp (rows s) F (rows out)) ∧ Below w2.heap.size w2 wr)
  case atStart => exact ⟨0, [], rfl, Nat.zero_le _, by omega, Nat.le_refl _, ⟨og, (fun _ h => by cases h), (fun _ h => by cases h)⟩, Grp.nil _, (Below.refl _ _).alloc (Nat.le_refl _) _⟩
  case round =>
    clear og
    obtain ⟨F, out, rfl, hF, hkx, hol, om, HG, hb⟩ := hrel
    by_cases hlt : F < n1
    · have hltz : (F : Int) < (n1 : Int) := by omega
      have hFs : F < s.length := by have := HP.out.2.2; omega
      have hmr := RdsM.below HM.out hb
      have kA := alike_any wr _ s hmr F hFs
      obtain ⟨-, -, -, b, off, rfl, hcell⟩ := hmr.at (by omega)
      have HOM : Hid (OwnM wr w2.heap.size u4 out) := om
      obtain ⟨a4, n4, c4, rfl⟩ := own_sl om.own
      clear om
      go_wp2_with fail
      refine kA.mono ?_
      rintro e w3 ⟨T, rfl, hFT, hTs, HA, b3⟩
      have hTn : T ≤ n1 := by have := HP.out.2.2; omega
      have hFTz : (F : Int) ≤ (T : Int) := by omega
      have hTz : (T : Int) ≤ (c1 : Int) := by omega
      have hcF : ¬ c1 = F := by omega
      have hFz : (F : Int) ≤ (c1 : Int) := by omega
      have m3 := hmr.below b3
      have kN := count_any w3 _ _ (m3.part (Nat.le_of_lt hFT) hTs)
      obtain ⟨N, hN⟩ : ∃ N, N = totM (rows ((s.take T).drop F)) := ⟨_, rfl⟩
      rw [← hN] at kN
      have hNl : N < 18446744073709551616 := by rw [hN]; exact totM_lt _
      have HN : Hid (N = totM (rows ((s.take T).drop F))) := hN
      clear hN kA
      go_wp2_with fail
      refine kN.mono ?_
      rintro e w4 ⟨rfl, b4⟩
      clear kN
      have b34 : Below w2.heap.size w2 w4 := hb.trans ((b3.trans (b4.mono b3.size)).mono hb.size)
      have om4 := OwnM.below (OwnM.below HOM.out b3) b4
      have m4 := m3.below b4
      have hstep : Hid (Grp (rows s) T (if N = 0 then rows out else rows out ++ [((s.getD F en0).f.ft, N)])) := by
        have hF' : F < (rows s).length := by rw [rows_length]; exact hFs
        have := Grp.step (srt_rows HP.out.2.1) HG.out hF' hFT (by rw [rows_length]; exact hTs)
          (fun j hj h1 h2 => by rw [rows_get, rows_get]; exact HA.out.1 j h1 h2) (fun hT => by rw [rows_get, rows_get]; exact HA.out.2 (by rw [rows_length] at hT; exact hT))
        rw [← rows_part, ← HN.out, rows_get] at this
        exact this
      clear HOM HG HA b3 b4 m3 hmr hb hcell
      by_cases hz : N = 0
      · have hz2 : ((N : Int) != 0) = false := by simp [hz]
        have HZ : Hid (N = 0) := hz
        have HOM : Hid (OwnM w4 w2.heap.size (.slice a4 n4 c4) out) := om4
        clear hz om4 m4
        go_wp2_with fail
        go_roundg (n1 - T)
        case measure => omega
        case rel =>
          refine ⟨T, out, rfl, hTn, Nat.le_refl _, by omega, HOM.out, ?_, b34⟩
          have hg := hstep.out
          rw [if_pos HZ.out] at hg
          exact hg
      · have hz2 : ((N : Int) != 0) = true := by simp; omega
        have HZ : Hid (¬ N = 0) := hz
        clear hz
        have HX : Hid (s.getD F en0 = s[F]) := getD_en s F hFs
        obtain ⟨-, -, -, b', off', e, hcell⟩ := m4.at (by omega)
        simp only [Option.some.injEq, Addr.mk.injEq, and_true] at e
        obtain ⟨rfl, rfl⟩ := e
        obtain ⟨p0, p1, p2, p3⟩ := hcell F hFs
        have kP := copied_any w4 s[F].f (m4.ok s[F] (List.getElem_mem hFs)).f
        unfold Fc.val at kP
        have HOM : Hid (OwnM w4 w2.heap.size (.slice a4 n4 c4) out) := om4
        clear hcell m4 om4 p3
        go_wp2_with fail
        refine kP.mono ?_
        rintro e w5 ⟨g, rfl, hgf, og, b5⟩
        clear kP
        have b35 : Below w2.heap.size w2 w5 := b34.trans (b5.mono b34.size)
        have om5 := OwnM.below HOM.out b5
        obtain ⟨aD, nD, cD, hD⟩ := own_sl og.od
        obtain ⟨aM, nM, cM, hM⟩ := own_sl og.om
        obtain ⟨E, hE⟩ : ∃ E : En, E = ⟨g, N⟩ := ⟨_, rfl⟩
        have ba : Below w5.heap.size w5 (w5.alloc (.cells #[.int .i64 g.t, g.dv, g.mv, .int .u64 N] 46)) := (Below.refl _ _).alloc (Nat.le_refl _) _
        have oma := om5.below ba
        have oga := og.below ba
        have rone : RdsK 4 (w5.alloc (.cells #[.int .i64 g.t, g.dv, g.mv, .int .u64 N] 46)) (.slice (some ⟨w5.heap.size, 0, none⟩) 1 1) 1 (ev [E]) := by rw [hE]; exact one_rds w5 ⟨g, N⟩ _ rfl
        have hone : ∀ u ∈ ev [E], u.oneCell' = true := by
          rw [hE]
          exact ev_one (w := w5) fun e he => by
            simp only [List.mem_singleton] at he
            subst he
            exact ⟨og.ok, hNl⟩
        have hgE : E.row = ((s.getD F en0).f.ft, N) := by rw [hE, HX.out]; unfold En.row; rw [hgf]
        have hEf : E.f = g := by rw [hE]
        have hEn : E.n < two64 := by rw [hE]; exact hNl
        have hws : w2.heap.size ≤ w4.heap.size := b34.size
        rw [hD, hM] at rone oma oga
        have ha2 : Below w2.heap.size w2 (w5.alloc (.cells #[.int .i64 g.t, .slice aD nD cD, .slice aM nM cM, .int .u64 N] 46)) := b35.alloc b35.size _
        have HR : Hid (RdsK 4 (w5.alloc (.cells #[.int .i64 g.t, .slice aD nD cD, .slice aM nM cM, .int .u64 N] 46)) (.slice (some ⟨w5.heap.size, 0, none⟩) 1 1) 1 (ev [E])) := rone
        have HOA : Hid (OwnM (w5.alloc (.cells #[.int .i64 g.t, .slice aD nD cD, .slice aM nM cM, .int .u64 N] 46)) w2.heap.size (.slice a4 n4 c4) out) := oma
        have HGA : Hid (g.Own (w5.alloc (.cells #[.int .i64 g.t, .slice aD nD cD, .slice aM nM cM, .int .u64 N] 46)) w4.heap.size) := oga
        have HOO : Aside (∀ u ∈ ev [E], u.oneCell' = true) := hone
        have HE : Hid (E.row = ((s.getD F en0).f.ft, N) ∧ E.f = g) := ⟨hgE, hEf⟩
        rw [hD, hM]
        clear rone oma oga hone hgE hEf om5 og hE hD hM hgf ba
        go_wp2_with (first
          | (at_builtin; refine wpList_appK rfl _ _ 36 rfl w2.heap.size 46 i0 (.agg #[.int .i64 0, .slice none 0 0, .slice none 0 0, .int .u64 0]) 4 64 Try.underlying36 hi hy0 hy1 hy2 rfl (by decide) _ _ _ rfl HOA.out.own _ _ _ rfl HR.out HOO.out (by unfold maxLen; omega) (by omega) (by have := b35.size; simp; omega) ?_; intro v6 w6 hown6 hgrow6 hnil6))
        go_roundg (n1 - T)
        case measure => omega
        case rel =>
          have hapart : ∀ {e1 k1 : Nat} {v1 : Value} {n1 : Nat} {xs1 : List Value} {base1 : Nat}, (w5.alloc (.cells #[.int .i64 g.t, .slice aD nD cD, .slice aM nM cM, .int .u64 N] 46)).ownsRow base1 e1 k1 v1 n1 xs1 → e1 ≠ 46 → w6.ownsRow base1 e1 k1 v1 n1 xs1 := fun ho hne => ho.kept hgrow6 (own_apart ho HOA.out.own hne)
          refine ⟨T, out ++ [E], rfl, hTn, Nat.le_refl _, by simp; omega, ⟨?_, fun e he => ?_, fun e he => ?_⟩, ?_, ?_⟩
          · rw [List.length_append, ev_app]; exact hown6
          · rcases List.mem_append.1 he with he | he
            · have o := HOA.out.each e he
              exact ⟨hapart o.od (by decide), hapart o.om (by decide), o.bd, o.bm⟩
            · simp only [List.mem_singleton] at he
              subst he
              have o := HGA.out.mono hws
              rw [HE.out.2]
              exact ⟨hapart o.od (by decide), hapart o.om (by decide), o.bd, o.bm⟩
          · rcases List.mem_append.1 he with he | he
            · exact HOA.out.few e he
            · simp only [List.mem_singleton] at he
              subst he
              exact hEn
          · have hg := hstep.out
            rw [if_neg HZ.out] at hg
            have : rows (out ++ [E]) = rows out ++ [((s.getD F en0).f.ft, N)] := by
              unfold rows
              rw [List.map_append, List.map_cons, List.map_nil, HE.out.1]
            rw [this]
            exact hg
          · exact ha2.grown hgrow6 ha2.size fun k hk => (HOA.out.own.lt k hk).1
    · have hltz : ¬ (F : Int) < (n1 : Int) := by omega
      have eF : F = n1 := by omega
      go_wp2_with fail
      go_ret
      refine ⟨u4, rfl, out, om.mono hw0, by have := HL.out; omega, ?_, HB.out.trans (hb.mono hw0)⟩
      have hg := HG.out
      rw [eF, HP.out.2.2, ← rows_length] at hg
      exact hg.done.ext fun f => by rw [cntR_perm (perm_rows HP.out.1)]
end Go.Proofs.Ytgdeongeonhlpaa
