/- Deliver, of one that is there. -/
import Derived.Test.YtnkllgpibmofiaaNtw
namespace Go.Proofs.Ytnkllgpibmofiaa
open Go.RowKit Go.Maps Go.Sort
set_option linter.unusedVariables false

theorem step_loadR {P : Program} {ops : Array Oper} {o : Oper} {a : Act} {w : World} {K : Act → World → Prop} {Q : Exit → Act → World → Prop} {E : Prop} (hgd : o.guard = none) (ty : TypeId) (x : Operand) (ho : o.op = .load ty x)
    (g : Nat) (hx : a.eval x = .pointer (some ⟨g, 0, none⟩)) (t : TypeId) (cs : Array Value) (d : TypeDesc) (hg : BxA w g t cs)
    (hu : P.underlying ty = some d) (hd : (match d with | .struct _ | .array _ _ => true | _ => false) = true) (hi : (P.info? ty).map (·.size) = some cs.size)
    (h : K (a.put o.dst (.agg cs)) w) : if Region.wanted o (yielded ops a.tmps) = true then Oper.wp P o a w K Q else E := by
  rw [if_pos (by simp [Region.wanted, hgd])]
  exact wp_load_row ty x ho g hx t cs (0, 0) d hg hu hd hi h
theorem step_storeR {P : Program} {ops : Array Oper} {o : Oper} {a : Act} {w : World} {K : Act → World → Prop} {Q : Exit → Act → World → Prop} {E : Prop} (hgd : o.guard = none) (ty : TypeId) (x y : Operand) (ho : o.op = .store ty x y)
    (g : Nat) (cells : Array Value) (hx : a.eval x = .pointer (some ⟨g, 0, none⟩)) (hy : a.eval y = .agg cells) (t : TypeId) (old : Array Value) (hg : BxA w g t old)
    (hi : (P.info? ty).map (·.size) = some cells.size) (hold : old.size = cells.size) (h1 : cells.all (·.oneCell') = true)
    (h : K (a.put o.dst undef) (w.setRow g cells)) : if Region.wanted o (yielded ops a.tmps) = true then Oper.wp P o a w K Q else E := by
  rw [if_pos (by simp [Region.wanted, hgd])]
  exact wp_store_row ty x y ho g cells hx hy t old hg hi hold h1 h
theorem setRow_grown' (w : World) (g : Nat) (cs : Array Value) : w.grownBy (w.setRow g cs) (some g) := ⟨rfl, rfl, rfl, by simp, fun k _ hk => setRow_other w g k cs (fun e => hk (by simp [e]))⟩
theorem BxA.setRow {w : World} {g b : Nat} {t : TypeId} {cs M : Array Value} (h : BxA w g t cs) (hn : g ≠ b) : BxA (w.setRow b M) g t cs := by
  unfold BxA at h ⊢
  rw [setRow_other w b g M hn]
  exact h
theorem BxA.frm {w w' : World} {g : Nat} {t : TypeId} {cs : Array Value} {F : Nat → Prop} (h : BxA w g t cs) (hf : Fr F w w') (hn : ¬ F g) : BxA w' g t cs := by
  unfold BxA at h ⊢
  rw [hf.block g (Array.getElem?_eq_some_iff.1 h).1 hn]
  exact h
theorem NtZ.setRow {w : World} {n sent b : Nat} {F : Nat → Prop} {v : Value} {Z : List Gm} {M : Array Value} (h : NtZ w n F sent v Z) (hb : ¬ F b) : NtZ (w.setRow b M) n F sent v Z := h.frame (by simp) fun i hi => setRow_other w b i M fun e => hb (e ▸ hi)
set_option maxRecDepth 20000 in
set_option maxHeartbeats 4000000 in
theorem deliver_any (w : World) (n sent : Nat) (F : Nat → Prop) (v : Value) (Z : List Gm) (i : Nat) (h : NtZ w n F sent v Z) (hi : i < Z.length) (hz : Z.length ≤ 1000000) :
    Calls Try.prog 19 #[.pointer (some ⟨n, 0, none⟩), .int .i64 (i : Int)] w fun e w' => e = .returned (.tuple #[.agg Z[i].2, .bool true]) ∧ ∃ v', NtZ w' n F sent v' (Z.eraseIdx i) ∧ Fr F w w' := by
  obtain ⟨-, hM, -⟩ := h.e _ (List.getElem_mem hi)
  obtain ⟨M, hMe⟩ : ∃ M, M = Z[i].2 := ⟨_, rfl⟩
  have kP := fun (w' : World) (hn : NtZ w' n F sent v Z) => peek_any w' n sent F v Z i hn hi hz
  have kL := fun (w' : World) (hn : NtZ w' n F sent v Z) => lose_any w' n sent F v Z i hn hi hz
  rw [← hMe] at hM ⊢
  rw [← hMe] at kP
  have HI : Hid ((Try.prog.info? 54).map (·.size) = some M.size) := by apply hide; rw [hM.sz]; exact Try.info_msg
  have H1 := hide hM.one
  have HSZ := hide hM.sz
  have HKP := hide kP
  have HKL := hide kL
  have H := hide h
  clear h hM hMe kP kL
  go_enter Try.func19, Try.ntmps19
  go_wp2_with fail
  go_at_call 23
  refine (HKP.out _ (H.out.below ((Below.refl _ _).alloc (Nat.le_refl _) _))).mono ?_
  rintro e w1 ⟨he1, hg1⟩
  subst he1
  have hbA := BxA.up (BxA.new w _ _) hg1.below
  have hgw : Grows w w1 := (Grows.alloc w _).trans hg1
  obtain ⟨ZZ, hzz, hzs⟩ : ∃ ZZ, BxA w1 w.heap.size 54 ZZ ∧ ZZ.size = 41 := ⟨_, hbA, rfl⟩
  have HA1 := hide hzz
  have HZS : Hid (ZZ.size = M.size) := hide (by rw [hzs, HSZ.out])
  have HGW := hide hgw
  clear hg1 hbA hgw hzz hzs
  go_wp2_with (refine wpList_store_row rfl 54 (.tmp 6) (.tmp 12) rfl w1.heap.size M rfl rfl 54 _ (BxA.new _ _ _) HI.out (by rw [HSZ.out]; rfl) H1.out ?_)
  obtain ⟨W, hW⟩ : ∃ W, W = (w1.alloc (.cells #[.int .i64 0, .int .i64 0, .int .i64 0, .int .u64 0, .int .u64 0, .int .u64 0, .int .i64 0, .int .u64 0, .int .i64 0, .int .i64 0, .slice none 0 0, .slice none 0 0, .int .i64 0, .int .i64 0, .int .i64 0, .int .i64 0, .slice none 0 0, .int .i64 0, .int .i64 0, .slice none 0 0, .int .i64 0, .slice none 0 0, .slice none 0 0, .int .i64 0, .int .i64 0, .int .i64 0, .int .i64 0, .int .i64 0, .int .i64 0, .int .i64 0, .int .i64 0, .int .i64 0, .bool false, .int .i64 0, .int .i64 0, .int .i64 0, .int .i64 0, .int .i64 0, .int .i64 0, .slice none 0 0, .slice none 0 0] 54)).setRow w1.heap.size M := ⟨_, rfl⟩
  have hWB : BxA W w1.heap.size 54 M := by rw [hW]; exact setRow_heap _ _ _ M _ _ (BxA.new _ _ _)
  have hWA : BxA W w.heap.size 54 ZZ := by rw [hW]; exact BxA.setRow (bx_alloc2 HA1.out _) (by have := HA1.out.lt; omega)
  have hGW : Grows w W := by rw [hW]; exact (HGW.out.trans (Grows.alloc _ _)).setRow M (by have := HA1.out.lt; omega)
  rw [← hW]
  clear hW
  have HWB := hide hWB
  have HWA := hide hWA
  have HWD : Hid (Grows w W.drew) := hide (hGW.trans (Grows.drew W))
  have HND := hide (H.out.below (hGW.trans (Grows.drew W)).below)
  have hFA : ∀ j, F j → j ≠ w.heap.size ∧ j ≠ w1.heap.size := fun j hj => by have := H.out.lt j hj; have := HA1.out.lt; omega
  have HFA := hide hFA
  have HBLT : Hid (w1.heap.size < W.heap.size ∧ w.heap.size < W.heap.size) := hide ⟨hWB.lt, hWA.lt⟩
  clear hWB hWA hGW hFA
  refine wp_region_any (by kernel_rfl) ?_
  refine wpAny_take (i := 1) (v := ?_) rfl (by kernel_rfl) (by kernel_rfl) (by kernel_rfl) (fun _ _ _ h => h) (Or.inl ⟨by rfl, ?hy7⟩) ?_
  case hy7 => intro w; go_simp; first | done | with_reducible rfl
  refine wpAny_take (i := 2) (v := ?_) rfl (by kernel_rfl) (by kernel_rfl) (by kernel_rfl) (fun _ _ _ h => h) (Or.inl ⟨by rfl, ?hy8⟩) ?_
  case hy8 => intro w; go_simp; first | done | with_reducible rfl
  refine wpAny_take (i := 3) (v := ?_) rfl (by kernel_rfl) (by kernel_rfl) (by kernel_rfl) (fun _ _ _ h => h) (Or.inl ⟨by rfl, ?hy9⟩) ?_
  case hy9 => intro w; go_simp; first | done | with_reducible rfl
  refine wpAny_take (i := 4) (v := ?_) rfl (by kernel_rfl) (by kernel_rfl) (by kernel_rfl) (fun _ _ _ h => h) (Or.inl ⟨by rfl, ?hy10⟩) ?_
  case hy10 => intro w; go_simp; first | done | with_reducible rfl
  refine wpAny_ready (rs := [0, 5]) (by kernel_rfl) (by simp) ?_
  refine AllReady.cons rfl (fun K hK => ?_) (AllReady.cons rfl (fun K hK => ?_) AllReady.nil)
  · refine step_loadR rfl 54 (.tmp 6) rfl w1.heap.size rfl 54 M _ (show BxA W.drew _ _ _ from HWB.out) Try.underlying54 rfl HI.out ?_
    refine hK _ _ ?_
    clear hK K
    refine wpAny_ready (rs := [5]) (by kernel_rfl) (by simp) ?_
    refine AllReady.cons rfl (fun K hK => ?_) AllReady.nil
    go_simp
    go_at_call 15
    refine (HKL.out W.drew HND.out).mono ?_
    rintro e w5 ⟨he5, v5, hn5, fr5, b5⟩
    subst he5
    have HB5 := hide (BxA.frm (show BxA W.drew _ _ _ from HWB.out) fr5 (fun hb => (HFA.out _ (H.out.bk _ hb)).2 rfl))
    have HA5 := hide (BxA.frm (show BxA W.drew _ _ _ from HWA.out) fr5 (fun hb => (HFA.out _ (H.out.bk _ hb)).1 rfl))
    have HN5 := hide hn5
    have FR5 := hide fr5
    clear hn5 fr5 b5
    refine hK _ _ ?_
    clear hK K
    refine wpAny_take (i := 6) (v := ?_) rfl (by kernel_rfl) (by kernel_rfl) (by kernel_rfl) (fun _ _ _ h => h) (Or.inl ⟨by rfl, ?hy1⟩) ?_
    case hy1 => intro w; go_simp; first | done | with_reducible rfl
    refine wpAny_ready (rs := [7]) (by kernel_rfl) (by simp) ?_
    refine AllReady.cons rfl (fun K hK => ?_) AllReady.nil
    refine step_storeR rfl 54 (.tmp 4) (.tmp 14) rfl w.heap.size M rfl rfl 54 ZZ HA5.out HI.out HZS.out H1.out ?_
    refine hK _ _ ?_
    clear hK K
    refine wpAny_take (i := 8) (v := ?_) rfl (by kernel_rfl) (by kernel_rfl) (by kernel_rfl) (fun _ _ _ h => h) (Or.inl ⟨by rfl, ?hy2⟩) ?_
    case hy2 => intro w; go_simp; first | done | with_reducible rfl
    refine wpAny_done (by kernel_rfl) ?_ _
    go_wp2_with fail
    refine bodyPost_ret (results_two rfl _ _ w.heap.size 54 M _ (.bool true) rfl rfl (setRow_heap _ _ _ M _ _ HA5.out) Try.underlying54 rfl HI.out) rfl ⟨rfl, v5, HN5.out.setRow (fun hf => (HFA.out _ hf).1 rfl), ?_⟩
    have f1 : Fr F w W.drew := Fr.of_below HWD.out.below
    have f2 : Fr F w w5 := f1.trans FR5.out fun i _ hb => H.out.bk i hb
    exact f2.trans (Fr.of_grown (F := fun i => i = w.heap.size) (setRow_grown' w5 w.heap.size M) fun j hj => .inl (by injection hj with hj; exact hj.symm)) fun i hi hb => by omega
  · go_simp
    go_at_call 15
    refine (HKL.out W.drew HND.out).mono ?_
    rintro e w5 ⟨he5, v5, hn5, fr5, b5⟩
    subst he5
    have HB5 := hide (BxA.frm (show BxA W.drew _ _ _ from HWB.out) fr5 (fun hb => (HFA.out _ (H.out.bk _ hb)).2 rfl))
    have HA5 := hide (BxA.frm (show BxA W.drew _ _ _ from HWA.out) fr5 (fun hb => (HFA.out _ (H.out.bk _ hb)).1 rfl))
    have HN5 := hide hn5
    have FR5 := hide fr5
    clear hn5 fr5 b5
    refine hK _ _ ?_
    clear hK K
    refine wpAny_take (i := 6) (v := ?_) rfl (by kernel_rfl) (by kernel_rfl) (by kernel_rfl) (fun _ _ _ h => h) (Or.inl ⟨by rfl, ?hy5⟩) ?_
    case hy5 => intro w; go_simp; first | done | with_reducible rfl
    refine wpAny_ready (rs := [0]) (by kernel_rfl) (by simp) ?_
    refine AllReady.cons rfl (fun K hK => ?_) AllReady.nil
    refine step_loadR rfl 54 (.tmp 6) rfl w1.heap.size rfl 54 M _ HB5.out Try.underlying54 rfl HI.out ?_
    refine hK _ _ ?_
    clear hK K
    refine wpAny_ready (rs := [7]) (by kernel_rfl) (by simp) ?_
    refine AllReady.cons rfl (fun K hK => ?_) AllReady.nil
    refine step_storeR rfl 54 (.tmp 4) (.tmp 14) rfl w.heap.size M rfl rfl 54 ZZ HA5.out HI.out HZS.out H1.out ?_
    refine hK _ _ ?_
    clear hK K
    refine wpAny_take (i := 8) (v := ?_) rfl (by kernel_rfl) (by kernel_rfl) (by kernel_rfl) (fun _ _ _ h => h) (Or.inl ⟨by rfl, ?hy6⟩) ?_
    case hy6 => intro w; go_simp; first | done | with_reducible rfl
    refine wpAny_done (by kernel_rfl) ?_ _
    go_wp2_with fail
    refine bodyPost_ret (results_two rfl _ _ w.heap.size 54 M _ (.bool true) rfl rfl (setRow_heap _ _ _ M _ _ HA5.out) Try.underlying54 rfl HI.out) rfl ⟨rfl, v5, HN5.out.setRow (fun hf => (HFA.out _ hf).1 rfl), ?_⟩
    have f1 : Fr F w W.drew := Fr.of_below HWD.out.below
    have f2 : Fr F w w5 := f1.trans FR5.out fun i _ hb => H.out.bk i hb
    exact f2.trans (Fr.of_grown (F := fun i => i = w.heap.size) (setRow_grown' w5 w.heap.size M) fun j hj => .inl (by injection hj with hj; exact hj.symm)) fun i hi hb => by omega
end Go.Proofs.Ytnkllgpibmofiaa
