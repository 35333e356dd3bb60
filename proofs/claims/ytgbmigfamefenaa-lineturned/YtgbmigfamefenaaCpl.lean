/- Contracts: complete$1, complete. -/
import Derived.Test.YtgbmigfamefenaaKys
namespace Go.Proofs.Ytgbmigfamefenaa
open Go.RowKit Go.Maps Go.Sort
set_option linter.unusedVariables false

theorem own_iv {w : World} {base : Nat} {v : Value} {ps : List Int} (h : w.ownsRow base 3 1 v ps.length (iv ps)) : Rds w v (iv ps) := by
  have h2 : Own w base 3 v (iv ps) := by
    unfold Own
    rw [iv_length]
    exact h
  exact h2.rds
/-- Two spans have a time in common. -/
def mt (a b c d : Int) : Bool := decide (max a c < min b d)
/-- The sets that are complete and have a time of a span. -/
def pC (a b : Int) (s : List Es) (k : K3) : Bool := mt k.1 k.2.1 a b && s.any fun e => e.1 == k && cmpl e.2.1 e.2.2
theorem any_one {w : World} {t : Nat} {F : Nat → Prop} {s : List Es} {mo : Option Nat} {Z : List En} (h : TlZ w t F s mo Z) {e : En} (he : e ∈ Z) : (s.any fun x => x.1 == e.k && cmpl x.2.1 x.2.2) = cmpl e.core e.ps := by
  rw [← h.fs, List.any_map]
  cases hc : cmpl e.core e.ps with
  | true =>
    rw [List.any_eq_true]
    exact ⟨e, he, by simp [En.es, hc]⟩
  | false =>
    rw [List.any_eq_false]
    intro x hx
    rcases apart_mem h.ap hx he with q | q
    · subst q
      simp [En.es, hc]
    · simp [En.es, q.1]
theorem TlZ.cores {w : World} {t : Nat} {F : Nat → Prop} {s : List Es} {mo : Option Nat} {Z : List En} (h : TlZ w t F s mo Z) {e : En} (he : e ∈ Z) : e.es ∈ s := by rw [← h.fs]; exact List.mem_map.2 ⟨e, he, rfl⟩
set_option maxRecDepth 100000 in
set_option maxHeartbeats 3200000 in
theorem compl1_any (w : World) (t sp tb : Nat) (F : Nat → Prop) (s : List Es) (mo : Option Nat) (Z : List En) (a b : Int) (h : TlZ w t F s mo Z) (hsp : BxA w sp 24 #[.int .i64 a, .int .i64 b]) (htb : BxA w tb 26 #[.pointer (some ⟨t, 0, none⟩)]) (e : En) (he : e ∈ Z) (hc : 0 ≤ e.core) :
    Calls Try.prog 46 #[.agg #[.int .i64 e.k.1, .int .i64 e.k.2.1, .int .i64 e.k.2.2], .pointer (some ⟨sp, 0, none⟩), .pointer (some ⟨tb, 0, none⟩)] w fun r w' => r = .returned (.bool (mt e.k.1 e.k.2.1 a b && cmpl e.core e.ps)) ∧ Grows w w' := by
  have mixed : Try.prog.follows .mixedOrders = true := by kernel_rfl
  have ok := h.e e he
  have hflat := flat_own ok.o
  obtain ⟨va, vc, hv⟩ := own_sl ok.o
  obtain ⟨W, hW⟩ : ∃ W, W = w.alloc (.cells #[.int .i64 e.k.1, .int .i64 e.k.2.1, .int .i64 e.k.2.2] 55) := ⟨_, rfl⟩
  have HG : Hid (Grows w W) := by apply hide; rw [hW]; exact Grows.alloc _ _
  have hbW := HG.out.below
  have zL : ∀ nq os, (Instr.lookup 61 (.map mo) (.agg #[.int .i64 e.k.1, .int .i64 e.k.2.1, .int .i64 e.k.2.2]) false).run Try.prog (Go.Sort.grow (W.drewN nq) os) = .ok (.agg #[.int .i64 e.core, e.v]) (Go.Sort.grow (W.drewN nq) os) := fun nq os => look_in (((h.below hbW).below (gro_below W nq os)).m) he ok.b3 hflat false
  have kK : ∀ nq os, Calls Try.prog 47 #[.agg #[.int .i64 e.core, e.v]] (Go.Sort.grow (W.drewN nq) os) fun r w' => r = .returned (.bool (cmpl e.core e.ps)) ∧ ∃ q os', w' = Go.Sort.grow ((Go.Sort.grow (W.drewN nq) os).drewN q) os' := fun nq os => (compl_any _ e.v e.core e.ps (own_iv ((((h.below hbW).below (gro_below W nq os)).e e he).o)) hc).mono fun _ _ ⟨h1, h2⟩ => ⟨h1, h2.ex⟩
  have kM := fun nq os => grown_at (w := W) (fun w' => meet_any w' e.k.1 e.k.2.1 a b) nq os
  have c0 : (W.cell? ⟨t, 0, none⟩) = some (.map mo) := (h.below hbW).b.cell 0 _ rfl
  have z0 := fun nq os => gro_cell c0 nq os
  have hsW : BxA W sp 24 #[.int .i64 a, .int .i64 b] := by have hl := hsp.lt; unfold BxA at hsp ⊢; rw [hbW.block _ hl]; exact hsp
  have htW : BxA W tb 26 #[.pointer (some ⟨t, 0, none⟩)] := by have hl := htb.lt; unfold BxA at htb ⊢; rw [hbW.block _ hl]; exact htb
  have hkW : BxA W w.heap.size 55 #[.int .i64 e.k.1, .int .i64 e.k.2.1, .int .i64 e.k.2.2] := by rw [hW]; exact BxA.new _ _ _
  have z1 := fun nq os => gro_cell (hsW.cell 0 _ rfl) nq os
  have z2 := fun nq os => gro_cell (hsW.cell 1 _ rfl) nq os
  have z3 := fun nq os => gro_cell (htW.cell 0 _ rfl) nq os
  have z4 := fun nq os => gro_cell (hkW.cell 0 _ rfl) nq os
  have z5 := fun nq os => gro_cell (hkW.cell 1 _ rfl) nq os
  have z6 := fun nq os => gro_cell (hkW.cell 2 _ rfl) nq os
  have HW : Hid (W = w.alloc (.cells #[.int .i64 e.k.1, .int .i64 e.k.2.1, .int .i64 e.k.2.2] 55)) := hW
  unfold mt
  obtain ⟨qm, hqm⟩ : ∃ q, q = decide (max e.k.1 a < min e.k.2.1 b) := ⟨_, rfl⟩
  obtain ⟨qc, hqc⟩ : ∃ q, q = cmpl e.core e.ps := ⟨_, rfl⟩
  rw [← hqm, ← hqc]
  simp only [← hqm] at kM
  simp only [← hqc] at kK
  obtain ⟨⟨x1, x2, x3⟩, ec, ev, eps⟩ := e
  simp only at *
  subst hv
  clear hW hsW htW hkW c0 hbW ok hflat hqm hqc h hsp htb
  cases qm
  all_goals
    go_enter Try.func46, Try.ntmps46
    go_upto_region 1 with fail
    rw [← HW.out]
    refine wp_region_quiet_grown (by assumption) (by kernel_rfl) ?_
    repeat (go_big_quiet_step (first | (go_at_call 26; with_reducible refine Calls.grown_of (kM _ _)) | (go_at_call 47; with_reducible refine Calls.grown_of (kK _ _))))
    refine wpQuiet_nil ?_
    intro V hw'
    obtain ⟨⟨nq, osq⟩, hw''⟩ := hw'
    have HGV : Hid (Grows w V) := by apply hide; rw [hw'']; exact HG.out.trans ⟨nq, osq, rfl⟩
    clear hw'' zL kK kM z0 z1 z2 z3 z4 z5 z6
    go_wp2_with fail
    go_ret
    exact ⟨rfl, HGV.out⟩
set_option maxRecDepth 100000 in
set_option maxHeartbeats 3200000 in
theorem complete_any (w : World) (t : Nat) (F : Nat → Prop) (s : List Es) (a b : Int) (h : Tl w t F s) (hfew : s.length ≤ 100000) (hc : ∀ e ∈ s, 0 ≤ e.2.1) :
    Calls Try.prog 25 #[.pointer (some ⟨t, 0, none⟩), .agg #[.int .i64 a, .int .i64 b]] w fun ev w' => ∃ v, ev = .returned v ∧ RdsK 3 w' v (keysF (pC a b s) s).length (kcs (keysF (pC a b s) s)) ∧ Below w.heap.size w w' := by
  obtain ⟨W, hW⟩ : ∃ W, W = (w.alloc (.cells #[.pointer (some ⟨t, 0, none⟩)] 26)).alloc (.cells #[.int .i64 a, .int .i64 b] 24) := ⟨_, rfl⟩
  have hG : Grows w W := by rw [hW]; exact (Grows.alloc _ _).trans (Grows.alloc _ _)
  have hs1 : (w.alloc (.cells #[.pointer (some ⟨t, 0, none⟩)] 26)).heap.size = w.heap.size + 1 := by simp
  have htb : BxA W w.heap.size 26 #[.pointer (some ⟨t, 0, none⟩)] := by
    rw [hW]
    unfold BxA
    rw [Below.heap_alloc _ _ _ (by rw [hs1]; omega)]
    exact BxA.new _ _ _
  have hsp : BxA W (w.heap.size + 1) 24 #[.int .i64 a, .int .i64 b] := by
    rw [hW, ← hs1]
    exact BxA.new _ _ _
  have hT := h.below hG.below
  have kK := keys_c W t F s (.pointer (some ⟨w.heap.size + 1, 0, none⟩)) (.pointer (some ⟨w.heap.size, 0, none⟩)) (pC a b s) hT hfew (fun w' hb e he => by
    obtain ⟨mo, Z, hz⟩ := hT
    have hz' := hz.below hb
    rw [← hz.fs] at he
    obtain ⟨x, hx, rfl⟩ := List.mem_map.1 he
    have k := compl1_any w' t (w.heap.size + 1) w.heap.size F s mo Z a b hz' (by have hl := hsp.lt; unfold BxA at hsp ⊢; rw [hb.block _ hl]; exact hsp) (by have hl := htb.lt; unfold BxA at htb ⊢; rw [hb.block _ hl]; exact htb) x hx (hc x.es (hz.cores hx))
    have e1 : pC a b s x.k = (mt x.k.1 x.k.2.1 a b && cmpl x.core x.ps) := by unfold pC; rw [any_one hz hx]
    show Calls _ _ #[.agg #[.int .i64 x.k.1, .int .i64 x.k.2.1, .int .i64 x.k.2.2], _, _] _ fun r w'' => r = .returned (.bool (pC a b s x.k)) ∧ _
    rw [e1]
    exact k)
  have c0 : W.cell? ⟨w.heap.size, 0, none⟩ = some (.pointer (some ⟨t, 0, none⟩)) := htb.cell 0 _ rfl
  have HW : Hid (W = (w.alloc (.cells #[.pointer (some ⟨t, 0, none⟩)] 26)).alloc (.cells #[.int .i64 a, .int .i64 b] 24)) := hW
  have HG : Hid (Below w.heap.size w W) := hG.below
  clear hW hG hs1 htb hsp hT h hc hfew
  go_enter Try.func25, Try.ntmps25
  go_upto_region 1 with fail
  rw [← HW.out]
  go_wp2_with fail
  refine kK.mono ?_
  rintro ev w2 ⟨v, rfl, r2, b2⟩
  have H2 : Hid (RdsK 3 w2 v (keysF (pC a b s) s).length (kcs (keysF (pC a b s) s)) ∧ Below w.heap.size w w2) := ⟨r2, HG.out.trans (b2.mono HG.out.size)⟩
  clear kK r2 b2
  go_wp2_with fail
  go_ret
  exact ⟨_, rfl, H2.out.1, H2.out.2⟩
end Go.Proofs.Ytgbmigfamefenaa
