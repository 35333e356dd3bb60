/- What is remembered of one sender: has, least, remember. -/
import Derived.Test.YtnkllgpibmofiaaSeM
import Derived.Test.YtnkllgpibmofiaaGro
namespace Go.Proofs.Ytnkllgpibmofiaa
open Go.RowKit Go.Maps Go.Sort
set_option linter.unusedVariables false

theorem zeroU (w : World) : (zeroValue 134).run Try.prog w = .ok (.agg #[]) w := Try.zeroValue134 w
theorem ROk.mg {w : World} {F : Nat → Prop} {x : Rw} (h : ROk w F x) : x.g ≠ x.m ∧ (∀ r, x.v.ownBlock = some r → r ≠ x.m) := by
  obtain ⟨D, h1, h2⟩ := h.m
  obtain ⟨es, clock, hm⟩ := map_cell h1
  constructor
  · intro e
    have hd : w.heap[x.g]? = _ := h.h.b
    rw [e, hm] at hd
    cases hd
  · intro r hr e
    rcases h.h.o.2 with ⟨h1, _⟩ | ⟨g', cap, cur, h1, _, h3, _⟩
    · rw [h1] at hr; cases hr
    · rw [h1] at hr
      simp only [Value.ownBlock, Option.some.injEq] at hr
      rw [hr, e, hm] at h3
      cases h3
theorem map_cell_lt {P : Program} {k : TypeId} {R : Value → Option (DataW Unit × List MemPlace)} {w : World} {m n : Nat} {D : DataW Unit} (h : w.ownsMap P k R m n D) : m < w.heap.size := h.lt
set_option maxHeartbeats 1000000 in
theorem has_any (w : World) (F : Nat → Prop) (x : Rw) (id : Nat) (h : ROk w F x) (hid : U64 id) :
    Calls Try.prog 41 #[.pointer (some ⟨x.g, 0, none⟩), .int .u64 (id : Int)] w fun e w' => e = .returned (.bool (decide (id ∈ x.ids))) ∧ Below w.heap.size w w' := by
  obtain ⟨D, hm, hd⟩ := h.m
  have c0 := h.h.b.cell 0 _ rfl
  have hk := keyU id hid
  have hlook := hm.look_ok lawU Try.underlying101 (zeroU w) unitElem_mk hk
  obtain ⟨v, ps, hrun, hv⟩ := hlook
  obtain ⟨rfl, -⟩ := unitElem_inv hv
  rw [hd.has id] at hrun
  clear h hm hd hk hv
  go_enter Try.func41, Try.ntmps41
  go_wp2_with fail
  go_ret
  refine ⟨rfl, ?_⟩
  first | exact (Below.refl _ _).alloc (Nat.le_refl _) _ | exact ((Below.refl _ _).alloc (Nat.le_refl _) _).setCell (by simp) _
set_option maxHeartbeats 1000000 in
theorem least_any (w : World) (F : Nat → Prop) (x : Rw) (h : ROk w F x) (hn : 0 < x.ids.length) :
    Calls Try.prog 42 #[.pointer (some ⟨x.g, 0, none⟩)] w fun e w' => e = .returned (.int .u64 (gv x.ids 0 : Int)) ∧ w' = w := by
  obtain ⟨b, c, hv, hlc, hcm, hbl⟩ : ∃ b c, x.v = .slice (some ⟨b, 0, none⟩) x.ids.length c ∧ x.ids.length ≤ c ∧ c ≤ maxLen ∧ b < w.heap.size := by
    rcases h.h.o.sh with ⟨_, e⟩ | h
    · rw [e] at hn; simp at hn
    · exact h
  have ho := h.h.o
  rw [hv] at ho
  have c1 := h.h.b.cell 1 _ rfl
  rw [hv] at c1
  have ca := ho.at 0 hn
  obtain ⟨n, hnn⟩ : ∃ n, n = x.ids.length := ⟨_, rfl⟩
  rw [← hnn] at c1 hn hlc
  unfold maxLen at hcm
  clear ho h hv hnn
  go_enter Try.func42, Try.ntmps42
  go_wp2_with fail
  go_ret
  exact ⟨rfl, rfl⟩
set_option maxRecDepth 20000 in
set_option maxHeartbeats 1000000 in
theorem remember_any (w : World) (F : Nat → Prop) (x : Rw) (id : Nat) (h : ROk w F x) (hF : ∀ i, F i → i < w.heap.size) (hid : U64 id) (hno : id ∉ x.ids) (hs : x.ids.length < 1000000) :
    Calls Try.prog 43 #[.pointer (some ⟨x.g, 0, none⟩), .int .u64 (id : Int)] w fun e w' => e = .returned (.tuple #[]) ∧ ∃ x' : Rw, x'.fr = x.fr ∧ x'.g = x.g ∧ x'.m = x.m ∧ x'.ids.Perm (x.ids ++ [id]) ∧ ROk w' (fun i => F i ∨ x'.v.ownBlock = some i) x' ∧ Fr (Bk x) w w' ∧ (∀ r, x'.v.ownBlock = some r → x.v.ownBlock = some r ∨ w.heap.size ≤ r) := by
  obtain ⟨D, hm, hd⟩ := h.m
  have c0 := h.h.b.cell 0 _ rfl
  have hk := keyU id hid
  have hl : x.ids.length < maxLen := by unfold maxLen; omega
  have HM := hide hm
  have HD := hide hd
  have HH := hide h
  have HL := hide hl
  have HHP := hide h.hp
  have HNE := hide h.mg
  clear h hm hd hl
  go_enter Try.func43, Try.ntmps43
  go_wp2_with (first | (at_mapUpdate; refine wpList_mapUpdate_in _ rfl _ _ _ 101 rfl 28 134 lawU Try.underlying101 unitElem _ _ D rfl HM.out HL.out _ _ _ rfl rfl hk _ _ unitElem_mk ?_; intro w1 hown1 hturn1; have HO1 := hide hown1; have hg1 := hturn1.grown; have HG1 := hide hg1; have hh1 : Hb w1 x.g (.map (some x.m)) x.v x.ids := HH.out.h.frame (hg1.block _ HH.out.h.b.lt (fun e => HNE.out.1 (by injection e))) (fun r hr => hg1.block _ (World.ownsRow.lt HH.out.h.o r hr).2 (fun e => HNE.out.2 r hr (by injection e))); have HH1 := hide hh1; have kP := hpush_any w1 x.g _ _ _ id hh1 HHP.out hs; clear hown1 hturn1 hg1 hh1) | (go_at_call 58; refine kP.mono ?_; rintro e w2 ⟨he2, v2, l2, h2, hp2, pm2, fr2, b2⟩; subst he2))
  go_end0
  have hF1 : ∀ r, v2.ownBlock = some r → x.v.ownBlock = some r ∨ w.heap.size ≤ r := fun r hr => by
    rcases b2 with e | ⟨b, e, hb⟩
    · exact .inl (by rw [← e]; exact hr)
    · rw [e] at hr; injection hr with hr; have := HG1.out.size; exact .inr (by omega)
  have hmm : w2.ownsMap Try.prog 28 unitElem x.m (x.ids.length + 1) (D.put (.int .u64 (id : Int)) (.agg [])) := map_frame HO1.out (fr2.block _ (map_cell_lt HO1.out) (fun e => by
    rcases e with e | e
    · exact HNE.out.1 e.symm
    · exact HNE.out.2 _ e rfl))
  refine ⟨rfl, ⟨x.fr, x.g, x.m, v2, l2⟩, rfl, rfl, rfl, pm2, ⟨h2, ⟨_, ?_, HD.out.add (HM.out.tidy lawU) hno pm2 (.agg [])⟩, hp2, ?_, ?_, .inl HH.out.fg, .inl HH.out.fm, fun r hr => .inr hr, HH.out.b64⟩, ?_, hF1⟩
  · have := pm2.length_eq
    simp only [List.length_append, List.length_singleton] at this
    rw [this]
    exact hmm
  · rw [pm2.nodup_iff, List.nodup_append]
    exact ⟨HH.out.nd, by simp, fun a ha b hb => by simp at hb; subst hb; exact fun e => hno (e ▸ ha)⟩
  · intro i hi
    rcases List.mem_append.1 (pm2.mem_iff.1 hi) with h | h
    · exact HH.out.sm i h
    · simp at h; subst h; exact hid
  · exact (Fr.of_grown (F := Bk x) HG1.out fun j hj => .inl (.inr (.inl (by injection hj with hj; exact hj.symm)))).trans fr2 fun i hi h => by
      rcases h with h | h
      · exact .inl h
      · exact .inr (.inr h)
set_option maxRecDepth 20000 in
set_option maxHeartbeats 2000000 in
theorem forget_any (w : World) (F : Nat → Prop) (x : Rw) (n : Nat) (h : ROk w F x) (hn : x.ids.length = n + 1) (hs : n ≤ 1000000) :
    Calls Try.prog 44 #[.pointer (some ⟨x.g, 0, none⟩)] w fun e w' => e = .returned (.tuple #[]) ∧ ∃ x' : Rw, x'.fr = x.fr ∧ x'.g = x.g ∧ x'.m = x.m ∧ (x'.ids ++ [gv x.ids 0]).Perm x.ids ∧ ROk w' F x' ∧ Fr (Bk x) w w' ∧ x'.v.ownBlock = x.v.ownBlock := by
  obtain ⟨D, hm, hd⟩ := h.m
  have c0 : w.cell? ⟨x.g, 0, none⟩ = some (.map (some x.m)) := h.h.b.cell 0 _ rfl
  have z0 := fun nq os => gro_cell c0 nq os
  have hk := keyU (gv x.ids 0) (h.sm _ (gv_mem (by omega)))
  have kL : ∀ w', Grows w w' → Calls Try.prog 42 #[.pointer (some ⟨x.g, 0, none⟩)] w' fun e w'' => e = .returned (.int .u64 (gv x.ids 0 : Int)) ∧ Grows w' w'' := fun w' hg => by
    refine (least_any w' (fun i => F i ∧ i < w.heap.size) x ?_ (by omega)).mono ?_
    · exact ROk.frame (w := w) ⟨h.h, h.m, h.hp, h.nd, h.sm, ⟨h.fg, h.h.b.lt⟩, ⟨h.fm, hm.lt⟩, fun r hr => ⟨h.fv r hr, (World.ownsRow.lt h.h.o r hr).2⟩, h.b64⟩ fun i hi => hg.below.block i hi.2
    · rintro e w'' ⟨h1, h2⟩
      subst h2
      exact ⟨h1, Grows.refl _⟩
  have kL' : ∀ nq os, Calls Try.prog 42 #[.pointer (some ⟨x.g, 0, none⟩)] (grow (w.drewN nq) os) fun e w' => e = .returned (.int .u64 (gv x.ids 0 : Int)) ∧ ∃ q os', w' = grow ((grow (w.drewN nq) os).drewN q) os' := fun nq os => (kL _ ⟨nq, os, rfl⟩).mono fun _ _ ⟨h1, h2⟩ => ⟨h1, h2.ex⟩
  have HM := hide hm
  have HD := hide hd
  have HH := hide h
  have HHP := hide h.hp
  have HNE := hide h.mg
  have HN := hide hn
  clear h hm hd hn kL
  go_enter Try.func44, Try.ntmps44
  go_wp2_with fail
  refine wp_region_first_grown 6 1 (by kernel_rfl) rfl (by kernel_rfl) (by kernel_rfl) (by kernel_rfl) (by kernel_rfl) ?_
  simp only [List.take_succ_cons, List.take_zero]
  repeat (go_big_quiet_step (first | (go_at_call 42; refine Calls.grown_of (kL' _ _)) | fail))
  refine wpQuiet_nil ?_
  intro V hw'
  obtain ⟨⟨nq, osq⟩, hw''⟩ := hw'
  have HG : Hid (Grows w V) := by apply hide; rw [hw'']; exact ⟨nq, osq, rfl⟩
  clear hw'' z0 kL'
  have hmV := map_frame HM.out (HG.out.below.block x.m HM.out.lt)
  refine wpAny_ready (rs := [6]) (by kernel_rfl) (by simp) ?_
  refine AllReady.cons rfl (fun K hK => ?_) AllReady.nil
  obtain ⟨w1, hrun1, hown1, hturn1⟩ := hmV.drop lawU Try.underlying101 hk 0
  go_simp
  have HO1 := hide hown1
  have hg1 := hturn1.grown
  have HG1 := hide hg1
  have hbV : Hb V x.g (.map (some x.m)) x.v x.ids := HH.out.h.frame (HG.out.below.block _ HH.out.h.b.lt) fun r hr => HG.out.below.block _ (World.ownsRow.lt HH.out.h.o r hr).2
  have hh1 : Hb w1 x.g (.map (some x.m)) x.v x.ids := hbV.frame (hg1.block _ hbV.b.lt (fun e => HNE.out.1 (by injection e))) (fun r hr => hg1.block _ (World.ownsRow.lt hbV.o r hr).2 (fun e => HNE.out.2 r hr (by injection e)))
  have HH1 := hide hh1
  have kP := hpop_any w1 x.g _ _ _ n hh1 HHP.out HN.out hs
  have HFV : Hid (Fr (Bk x) w w1) := (Fr.of_below HG.out.below).trans (Fr.of_grown (F := Bk x) hg1 fun j hj => .inl (.inr (.inl (by injection hj with hj; exact hj.symm)))) fun _ _ h => h
  clear hown1 hturn1 hg1 hh1 hbV hrun1 hmV c0
  refine hK _ _ ?_
  clear hK K
  refine wpAny_done (by kernel_rfl) ?_ _
  go_wp2_with (go_at_call 59; refine kP.mono ?_; rintro e w2 ⟨he2, v2, l2, h2, hp2, pm2, fr2, b2⟩; subst he2)
  go_end0
  have hmm : w2.ownsMap Try.prog 28 unitElem x.m x.ids.length (D.del (.int .u64 (gv x.ids 0 : Int))) := map_frame HO1.out (fr2.block _ HO1.out.lt (fun e => by
    rcases e with e | e
    · exact HNE.out.1 e.symm
    · exact HNE.out.2 _ e rfl))
  have hMI := HD.out.del (HM.out.tidy lawU) HH.out.nd pm2
  have hnd : (l2 ++ [gv x.ids 0]).Nodup := pm2.nodup_iff.2 HH.out.nd
  refine ⟨rfl, ⟨x.fr, x.g, x.m, v2, l2⟩, rfl, rfl, rfl, pm2, ⟨h2, ⟨_, ?_, hMI⟩, hp2, (List.nodup_append.1 hnd).1, fun i hi => HH.out.sm i (pm2.mem_iff.1 (List.mem_append_left _ hi)), HH.out.fg, HH.out.fm, fun r hr => HH.out.fv r (by rw [← b2]; exact hr), HH.out.b64⟩, HFV.out.trans fr2 ?_, b2⟩
  · have := tight hmm
    rw [hMI.size] at this
    exact this
  · intro i hi h
    rcases h with h | h
    · exact .inl h
    · exact .inr (.inr h)
end Go.Proofs.Ytnkllgpibmofiaa
