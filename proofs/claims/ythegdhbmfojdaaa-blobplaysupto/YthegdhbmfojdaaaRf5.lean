/- The reference's disk: Sync. -/
import Derived.Test.YthegdhbmfojdaaaRf4
namespace Go.Proofs.Ythegdhbmfojdaaa
open Go.RowKit Go.Maps Go.Sort
set_option linter.unusedVariables false

def updF (fs : List Fl) (t : Str) (g : Fl → Fl) : List Fl := match fs.findIdx? (fun f => f.nm == t) with
  | some i => match fs[i]? with
    | some f => fs.set i (g f)
    | none => fs
  | none => fs
theorem updF_at {fs : List Fl} {t : Str} {g : Fl → Fl} {i : Nat} (hi : i < fs.length) (h : fI fs t = (i : Int)) : updF fs t g = fs.set i (g fs[i]) := by
  unfold fI at h
  unfold updF
  cases hf : fs.findIdx? (fun f => f.nm == t) with
  | none =>
    rw [hf] at h
    exact absurd h (by show ¬ (-1 : Int) = (i : Int); omega)
  | some j =>
    rw [hf] at h
    have : j = i := by
      have h' : (j : Int) = (i : Int) := h
      omega
    subst this
    simp [List.getElem?_eq_getElem hi]
def rsyn (s : RSt) (t : Str) : Nat × RSt := if rrc s t t ≠ 0 then (rrc s t t, s) else if (rcnt s).1 then (122, (rcnt s).2) else (0, { (rcnt s).2 with fs := updF (rcnt s).2.fs t fun f => ⟨f.nm, f.bs, f.bs.length⟩ })
/-- How much of a file is synced is stored. -/
theorem RZ.sync {w : World} {r N g cap : Nat} {F : Nat → Prop} {s : RSt} {Z : List RE} (h : RZ w r F N s (.slice (some ⟨g, 0, none⟩) Z.length cap) Z) (i : Nat) (hi : i < Z.length) (k : Nat) (hk : k ≤ Z[i].bs.length) :
    RZ (w.setCell ⟨g, i * 3 + 2, none⟩ (.int .i64 (k : Int))) r F N { s with fs := s.fs.set i ⟨Z[i].nm, Z[i].bs, k⟩ } (.slice (some ⟨g, 0, none⟩) Z.length cap) (Z.set i ⟨Z[i].nm, Z[i].v, Z[i].bs, k⟩) := by
  have hne : ∀ j, j ≠ g → (w.setCell ⟨g, i * 3 + 2, none⟩ (.int .i64 (k : Int))).heap[j]? = w.heap[j]? := fun j hj => Below.heap_setCell _ _ _ _ hj
  have hby : ∀ x ∈ Z, ∀ b, x.v.ownBlock = some b → b ≠ g := fun x hx b hk e => by
    subst e
    rcases h.lo.2 with ⟨q, _⟩ | ⟨g', c', cur, q, q2, q3, _⟩
    · cases q
    · injection q with q _ _
      injection q with q
      injection q with q
      subst q
      rcases (h.e x hx).1.2 with ⟨q', _⟩ | ⟨g2, c2, cur2, q', _, q4, _⟩
      · rw [q'] at hk; cases hk
      · rw [q'] at hk
        injection hk with hk
        have hb' : g2 = b := hk
        rw [hb', q3] at q4
        simp at q4
  have hmem := List.getElem_mem hi
  have hself : (rcs Z).set (i * 3 + 1) Z[i].v = rcs Z := by
    have hlt : i * 3 + 1 < (rcs Z).length := by rw [rcs_len]; omega
    have e : (rcs Z)[i * 3 + 1] = Z[i].v := by
      have := rcs_get Z i hi 1 (by omega)
      rw [List.getElem?_eq_getElem hlt] at this
      have h2 : (Z[i].cs)[1]? = some Z[i].v := rfl
      rw [h2] at this
      injection this
    rw [← e]
    simp
  refine ⟨?_, h.f, ?_, h.fl, fun x hx => ?_, ?_, ?_, fun x hx => ?_, by rw [List.length_set]; exact h.few, h.nn, fun j hj => ?_⟩
  · have := h.b
    unfold BxA at this ⊢
    rw [hne r h.rg]
    exact this
  · rw [List.length_set, rcs_set Z i hi, hself]
    exact (World.ownsRow.stored h.lo (i * 3 + 2) (.int .i64 (k : Int))).1
  · rcases List.mem_or_eq_of_mem_set hx with hx | rfl
    · exact ⟨owns_block (h.e x hx).1 fun b hb => hne b (hby x hx b hb), (h.e x hx).2⟩
    · exact ⟨owns_block (h.e _ hmem).1 fun b hb => hne b (hby _ hmem b hb), (h.e _ hmem).2.1, hk⟩
  · have nd := h.ap
    rw [List.pairwise_iff_getElem] at nd ⊢
    intro a b ha hb hab
    rw [List.length_set] at ha hb
    have ea : ((Z.set i ⟨Z[i].nm, Z[i].v, Z[i].bs, k⟩)[a]'(by rw [List.length_set]; exact ha)).v = Z[a].v := by
      rw [List.getElem_set]
      split
      · rename_i q; subst q; rfl
      · rfl
    have eb : ((Z.set i ⟨Z[i].nm, Z[i].v, Z[i].bs, k⟩)[b]'(by rw [List.length_set]; exact hb)).v = Z[b].v := by
      rw [List.getElem_set]
      split
      · rename_i q; subst q; rfl
      · rfl
    rw [ea, eb]
    exact nd a b ha hb hab
  · rw [List.map_set, h.fs]
    rfl
  · rcases List.mem_or_eq_of_mem_set hx with hx | rfl
    · exact h.nb x hx
    · exact h.nb Z[i] hmem
  · have := h.lt j hj
    simpa using this
theorem Rm.same {w w' : World} {r N : Nat} {F : Nat → Prop} {s : RSt} (h : Rd w' r F N s) (f : Fr F w w') : Rm w w' r F N s := ⟨⟨F, h, fun _ h => .inl h⟩, f⟩
set_option maxRecDepth 100000 in
set_option maxHeartbeats 1600000 in
theorem refsync_any (w : World) (r N : Nat) (F : Nat → Prop) (s : RSt) (t : Str) (h : Rd w r F N s) (ht : t.length ≤ maxLen) (hN : N ≤ 140737488355328) (hop : s.n < 1000000) (hp : s.part ≤ 9223372036854775807) :
    Calls Try.prog 65 #[.pointer (some ⟨r, 0, none⟩), .string ⟨t.toArray⟩] w fun e w' => e = .returned (.int .i64 ((rsyn s t).1 : Nat)) ∧ Rm w w' r F N (rsyn s t).2 := by
  have mixed : Try.prog.follows .mixedOrders = true := by kernel_rfl
  have kR := refrefused_any w r N F s t t h ht ht
  have kC := refcounts_any w r N F s h hN hop hp
  have HH : Hid (Rd w r F N s) := h
  have HC : Hid (rrc s t t = 0 → hasF s.fs t = true) := fun q => by
    unfold rrc at q
    cases ho : s.off with
    | true => rw [ho] at q; simp at q
    | false =>
      cases hn : isNm t with
      | false => rw [ho, hn] at q; simp at q
      | true =>
        cases hh : hasF s.fs t with
        | true => rfl
        | false => rw [ho, hn, hh] at q; simp at q
  obtain ⟨c, hc⟩ : ∃ c, c = rrc s t t := ⟨_, rfl⟩
  rw [← hc] at kR HC
  have HCC : Hid (c = rrc s t t) := hc
  clear h hc
  by_cases h0 : c = 0
  · subst h0
    have hh := HC.out rfl
    obtain ⟨b, hb⟩ : ∃ b, b = (rcnt s).1 := ⟨_, rfl⟩
    rw [← hb] at kC
    have HB : Hid (b = (rcnt s).1) := hb
    have HT : Hid (hasF s.fs t = true) := hh
    clear hb hh
    cases b
    case true =>
      have HE : Hid (rsyn s t = (122, (rcnt s).2)) := by
        apply hide
        unfold rsyn
        rw [← HCC.out, if_neg (by simp), if_pos HB.out.symm]
      go_enter Try.func65, Try.ntmps65
      go_wp2_with fail
      refine kR.mono ?_
      rintro e wq ⟨rfl, rfl⟩
      clear kR
      go_wp2_with fail
      refine kC.mono ?_
      rintro e w2 ⟨rfl, m2⟩
      have HM2 : Hid _ := m2
      clear kC m2
      go_wp2_with fail
      go_ret
      rw [HE.out]
      exact ⟨rfl, HM2.out⟩
    case false =>
      have HE : Hid (rsyn s t = (0, { (rcnt s).2 with fs := updF (rcnt s).2.fs t fun f => ⟨f.nm, f.bs, f.bs.length⟩ })) := by
        apply hide
        unfold rsyn
        rw [← HCC.out, if_neg (by simp), if_neg (by rw [← HB.out]; simp)]
      have HFS : Hid ((rcnt s).2.fs = s.fs) := by
        apply hide
        have := HB.out
        unfold rcnt at this ⊢
        split
        · rename_i q; rw [if_pos q] at this; cases this
        · rfl
      obtain ⟨s2, hs2⟩ : ∃ q, q = (rcnt s).2 := ⟨_, rfl⟩
      rw [← hs2] at kC HE HFS
      rw [← HFS.out] at HT
      clear hs2 HB HCC HC HH
      go_enter Try.func65, Try.ntmps65
      go_wp2_with fail
      refine kR.mono ?_
      rintro e wq ⟨rfl, rfl⟩
      clear kR
      go_wp2_with fail
      refine kC.mono ?_
      rintro e w2 ⟨rfl, ⟨F2, d2, hF2⟩, f2⟩
      have kF := reffind_any w2 r N F2 s2 t d2
      obtain ⟨Lv, Z, hz⟩ := d2
      obtain ⟨i, hi, e1, e2, -, -⟩ := hz.find HT.out
      rw [e1] at kF
      obtain ⟨a, cap, rfl, hc1, hc2, hcs⟩ := hz.cells
      have b0 : w2.cell? ⟨r, 0, none⟩ = some (.slice a Z.length cap) := BxA.cell hz.b 0 _ rfl
      obtain ⟨g, rfl, hx⟩ := hcs (by omega)
      obtain ⟨-, x1, x2, xf⟩ := hx i hi
      have xf2 := xf 2
      obtain ⟨q1, -, -⟩ := hz.e _ (List.getElem_mem hi)
      have HZ : Hid (RZ w2 r F2 N s2 (.slice (some ⟨g, 0, none⟩) Z.length cap) Z) := hz
      have HI : Hid (i < Z.length) := hi
      have HF1 : Hid (fI s2.fs t = (i : Int)) := e1
      have hfew := hz.few
      obtain ⟨e, he⟩ : ∃ e, e = Z[i]'hi := ⟨_, rfl⟩
      rw [← he] at x1 x2 q1
      have HEZ : Hid (∀ h : i < Z.length, e = Z[i]'h) := fun _ => he
      obtain ⟨enm, ev, ebs, esy⟩ := e
      simp only at x1 x2 q1
      obtain ⟨va, vc, rfl⟩ : ∃ a c, ev = .slice a ebs.length c := by obtain ⟨a, c, e, _⟩ := q1.reads; exact ⟨_, _, e⟩
      obtain ⟨n, hn⟩ : ∃ n, n = Z.length := ⟨_, rfl⟩
      have HN : Hid (n = Z.length) := hn
      rw [← hn] at b0 hc1 hi hfew
      have hiz : (i : Int) < (n : Int) := by omega
      have hi0z : (0 : Int) ≤ (i : Int) := by omega
      have z0 := fun nq os => gro_cell b0 nq os
      have z1 := fun nq os => gro_cell x1 nq os
      have HM : Hid ((∀ i, F2 i → F i ∨ wq.heap.size ≤ i) ∧ Fr F wq w2) := ⟨hF2, f2⟩
      unfold maxLen at hc2
      clear hx hz he hn e1 e2 q1 xf kC hF2 f2 hcs b0
      go_wp2_with fail
      refine kF.mono ?_
      rintro e wz ⟨rfl, rfl⟩
      clear kF
      go_wp2_with fail
      refine wp_region_first_grown 16 1 (by assumption) rfl (by kernel_rfl) (by kernel_rfl) (by kernel_rfl) (by kernel_rfl) ?_
      simp only [List.take_succ_cons, List.take_zero]
      repeat (go_big_quiet_step (fail))
      refine wpQuiet_nil ?_
      intro V hw'
      obtain ⟨⟨nq, osq⟩, hw''⟩ := hw'
      have HBV : Hid (RowKit.Below wz.heap.size wz V) := by apply hide; rw [hw'']; exact gro_below wz nq osq
      have y2 : V.cell? ⟨g, i * 3 + 2, none⟩ = some (.int .i64 (esy : Int)) := by rw [HBV.out.cell (World.block_lt_of_cell? _ _ x2), x2]
      have yf : V.frozen? ⟨g, i * 3 + 2, none⟩ = false := by rw [HBV.out.frozen (World.block_lt_of_cell? _ _ x2)]; exact xf2
      clear hw'' z0 z1 x1 x2 xf2
      refine wpAny_ready (rs := [16]) (by kernel_rfl) (by simp) ?_
      refine AllReady.cons rfl (fun K hK => ?_) AllReady.nil
      go_simp
      refine hK _ _ ?_
      clear hK K
      refine wpAny_done (by kernel_rfl) ?_ _
      go_wp2_with fail
      go_ret
      have hzV : RZ V r F2 N s2 (.slice (some ⟨g, 0, none⟩) Z.length cap) Z := HZ.out.frame HBV.out.size fun j hj => HBV.out.block j (HZ.out.lt j hj)
      have hE := HEZ.out HI.out
      have hf := hzV.sync i HI.out ebs.length (by rw [← hE]; exact Nat.le_refl _)
      rw [← hE] at hf
      have hil : i < s2.fs.length := by rw [← HZ.out.fs, List.length_map]; exact HI.out
      have hfe : s2.fs[i]'hil = ⟨enm, ebs, esy⟩ := by
        have : s2.fs[i]? = (Z.map RE.fl)[i]? := by rw [HZ.out.fs]
        rw [List.getElem?_eq_getElem hil, List.getElem?_map, List.getElem?_eq_getElem HI.out, ← hE] at this
        simpa [RE.fl] using this
      rw [HE.out]
      refine ⟨rfl, ⟨F2, ⟨.slice (some ⟨g, 0, none⟩) Z.length cap, Z.set i ⟨enm, .slice va ebs.length vc, ebs, ebs.length⟩, ?_⟩, HM.out.1⟩, ?_⟩
      · have hup : ({ s2 with fs := updF s2.fs t fun f => ⟨f.nm, f.bs, f.bs.length⟩ } : RSt) = { s2 with fs := s2.fs.set i ⟨enm, ebs, ebs.length⟩ } := by
          rw [updF_at hil HF1.out, hfe]
        rw [hup]
        exact hf
      · have hFg : F g ∨ wq.heap.size ≤ g := HM.out.1 g (HZ.out.fl g rfl)
        refine (HM.out.2.trans (Fr.of_below (F := F) HBV.out) fun _ _ h => h).trans (Fr.of_grown (F := fun j => F j ∨ wq.heap.size ≤ j) grown_setCell fun j hj => .inl (by cases hj; exact hFg)) fun j hj h => ?_
        rcases h with h | h
        · exact h
        · omega
  · have h0z : ¬ (c : Int) = 0 := by omega
    have HE : Hid (rsyn s t = (c, s)) := by
      apply hide
      unfold rsyn
      rw [← HCC.out, if_pos h0]
    go_enter Try.func65, Try.ntmps65
    go_wp2_with fail
    refine kR.mono ?_
    rintro e wq ⟨rfl, rfl⟩
    clear kR kC
    go_wp2_with fail
    go_ret
    rw [HE.out]
    exact ⟨rfl, Rm.same HH.out (Fr.refl _ _)⟩
end Go.Proofs.Ythegdhbmfojdaaa
