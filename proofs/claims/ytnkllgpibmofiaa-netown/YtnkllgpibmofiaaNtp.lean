/- Peek, Lose, of one that is there. -/
import Derived.Test.YtnkllgpibmofiaaNts
namespace Go.Proofs.Ytnkllgpibmofiaa
open Go.RowKit Go.Maps Go.Sort
set_option linter.unusedVariables false

theorem results_two {P : Program} {fn : Func} {p q : Tmp} {ty : TypeId} (h : fn.results = #[.cell p ty, .tmp q]) (tmps : Array Value) (w : World) (g : Nat) (t : TypeId) (cs : Array Value) (d : TypeDesc) (v : Value)
    (hp : tmps.getD p undef = .pointer (some ⟨g, 0, none⟩)) (hq : tmps.getD q undef = v) (hg : BxA w g t cs)
    (hu : P.underlying ty = some d) (hd : (match d with | .struct _ | .array _ _ => true | _ => false) = true) (hi : (P.info? ty).map (·.size) = some cs.size) :
    (results fn tmps).run P w = .ok (.tuple #[.agg cs, v]) w := by
  have hp' : tmps[p]?.getD undef = .pointer (some ⟨g, 0, none⟩) := by simpa using hp
  have hq' : tmps[q]?.getD undef = v := by simpa using hq
  simp [results, h, hp', hq', asAddr, run_loadVar_row w g t ty cs (0, 0) d hg hu hd hi]
theorem NtZ.cellp {w : World} {n sent : Nat} {F : Nat → Prop} {v : Value} {Z : List Gm} (h : NtZ w n F sent v Z) (i : Nat) (hi : i < Z.length) : ∃ b c, v = .slice (some ⟨b, 0, none⟩) Z.length c ∧ Z.length ≤ c ∧ c ≤ maxLen ∧ w.cell? ⟨b, i, none⟩ = some (.pointer (some ⟨Z[i].1, 0, none⟩)) := by
  rcases h.o.2 with ⟨_, hn⟩ | ⟨g, cap, cur, rfl, hb, hg, hnc, hcm, _⟩
  · omega
  · have := World.ownsRow.cells h.o rfl i (.pointer (some ⟨Z[i].1, 0, none⟩)) (by simp [pvs, hi])
    rw [Addr.add_lit] at this
    exact ⟨g, cap, rfl, hnc, hcm, by simpa using this⟩
set_option maxRecDepth 20000 in
set_option maxHeartbeats 4000000 in
theorem peek_any (w : World) (n sent : Nat) (F : Nat → Prop) (v : Value) (Z : List Gm) (i : Nat) (h : NtZ w n F sent v Z) (hi : i < Z.length) (hz : Z.length ≤ 1000000) :
    Calls Try.prog 23 #[.pointer (some ⟨n, 0, none⟩), .int .i64 (i : Int)] w fun e w' => e = .returned (.tuple #[.agg Z[i].2, .bool true]) ∧ Grows w w' := by
  obtain ⟨b, c, hv, hc1, hc2, hcell⟩ := h.cellp i hi
  have c1 : w.cell? ⟨n, 1, none⟩ = some v := h.b.cell 1 _ rfl
  obtain ⟨hb, hM, hFx⟩ := h.e _ (List.getElem_mem hi)
  obtain ⟨M, hMe⟩ : ∃ M, M = Z[i].2 := ⟨_, rfl⟩
  obtain ⟨x, hx⟩ : ∃ x, x = Z[i].1 := ⟨_, rfl⟩
  rw [← hMe] at hb hM ⊢
  rw [← hx] at hcell hb
  obtain ⟨ZZ, hZZ, hzs⟩ : ∃ ZZ, (w.alloc (.cells ZZ 54)) = (w.alloc (.cells #[.int .i64 0, .int .i64 0, .int .i64 0, .int .u64 0, .int .u64 0, .int .u64 0, .int .i64 0, .int .u64 0, .int .i64 0, .int .i64 0, .slice none 0 0, .slice none 0 0, .int .i64 0, .int .i64 0, .int .i64 0, .int .i64 0, .slice none 0 0, .int .i64 0, .int .i64 0, .slice none 0 0, .int .i64 0, .slice none 0 0, .slice none 0 0, .int .i64 0, .int .i64 0, .int .i64 0, .int .i64 0, .int .i64 0, .int .i64 0, .int .i64 0, .int .i64 0, .int .i64 0, .bool false, .int .i64 0, .int .i64 0, .int .i64 0, .int .i64 0, .int .i64 0, .int .i64 0, .slice none 0 0, .slice none 0 0] 54)) ∧ ZZ.size = 41 := ⟨_, rfl, rfl⟩
  have hB : Below w.heap.size w (w.alloc (.cells ZZ 54)) := (Below.refl _ _).alloc (Nat.le_refl _) _
  have kH := has_net (w.alloc (.cells ZZ 54)) n sent F v Z (h.below hB) i (by omega)
  have hdz : decide (0 ≤ (i : Int) ∧ (i : Int) < (Z.length : Int)) = true := by simp; omega
  rw [hdz] at kH
  obtain ⟨m, hm⟩ : ∃ m, m = Z.length := ⟨_, rfl⟩
  rw [← hm] at hv hc1 hz
  have him : (i : Int) < (m : Int) := by omega
  rw [hv] at c1
  unfold maxLen at hc2
  have HI : Hid ((Try.prog.info? 54).map (·.size) = some M.size) := by apply hide; rw [hM.sz]; exact Try.info_msg
  have H1 := hide hM.one
  have kC := fun w => copied_plain w M hM
  have HB := hide hb
  have HZS : Hid (ZZ.size = M.size) := hide (by rw [hzs, hM.sz])
  have a1 : (w.alloc (.cells ZZ 54)).cell? ⟨n, 1, none⟩ = some (.slice (some ⟨b, 0, none⟩) m c) := by rw [hB.cell (World.block_lt_of_cell? _ _ c1)]; exact c1
  have a2 : (w.alloc (.cells ZZ 54)).cell? ⟨b, i, none⟩ = some (.pointer (some ⟨x, 0, none⟩)) := by rw [hB.cell (World.block_lt_of_cell? _ _ hcell)]; exact hcell
  have HB1 : Hid (BxA (w.alloc (.cells ZZ 54)) x 54 M) := hide (BxA.up hb hB)
  have HBZ : Hid (BxA (w.alloc (.cells ZZ 54)) w.heap.size 54 ZZ) := hide (BxA.new _ _ _)
  have HHD := hide h
  clear h hi hb hM hFx hMe hx hm hv hzs hcell c1 hdz hB
  go_enter Try.func23, Try.ntmps23
  go_wp2_with fail
  rw [← hZZ]
  clear hZZ
  go_at_call 36
  refine kH.mono ?_
  rintro e w1 ⟨he1, hw1⟩
  have hw1 := hw1.symm
  subst he1
  subst hw1
  generalize hW : w.alloc (.cells ZZ 54) = W at *
  go_wp2_with (first
    | (refine wpList_load_row rfl 54 (.tmp 18) rfl x rfl 54 M (0, 0) _ HB1.out Try.underlying54 rfl HI.out ?_)
    | (go_at_call 35; refine (kC _).mono ?_; rintro e w2 ⟨he2, hg2⟩; subst he2; have HG2 := hide hg2; have HZ2 := hide (BxA.up HBZ.out hg2.below); clear hg2)
    | (refine wpList_store_row rfl 54 (.tmp 4) (.tmp 20) rfl w.heap.size M rfl rfl 54 ZZ HZ2.out HI.out HZS.out H1.out ?_))
  refine bodyPost_ret (results_two rfl _ _ w.heap.size 54 M _ (.bool true) rfl rfl (setRow_heap _ _ _ M _ _ HZ2.out) Try.underlying54 rfl HI.out) rfl ⟨rfl, ?_⟩
  have hg : Grows w W := by rw [← hW]; exact Grows.alloc w _
  exact (hg.trans HG2.out).setRow M (Nat.le_refl _)
end Go.Proofs.Ytnkllgpibmofiaa
