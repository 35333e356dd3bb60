/- Seal. -/
import Derived.Test.YtmnlkmgpikilbaaSea
namespace Go.Proofs.Ytmnlkmgpikilbaa
open Go.RowKit Go.Maps Go.Sort
set_option linter.unusedVariables false

theorem results_two {P : Program} {fn : Func} {p q : Tmp} {ty : TypeId} (h : fn.results = #[.cell p ty, .tmp q]) (tmps : Array Value) (w : World) (g : Nat) (t : TypeId) (cs : Array Value) (d : TypeDesc) (v : Value)
    (hp : tmps.getD p undef = .pointer (some ⟨g, 0, none⟩)) (hq : tmps.getD q undef = v) (hg : BxA w g t cs)
    (hu : P.underlying ty = some d) (hd : (match d with | .struct _ | .array _ _ => true | _ => false) = true) (hi : (P.info? ty).map (·.size) = some cs.size) :
    (results fn tmps).run P w = .ok (.tuple #[.agg cs, v]) w := by
  have hp' : tmps[p]?.getD undef = .pointer (some ⟨g, 0, none⟩) := by simpa using hp
  have hq' : tmps[q]?.getD undef = v := by simpa using hq
  simp [results, h, hp', hq', asAddr, run_loadVar_row w g t ty cs (0, 0) d hg hu hd hi]
/-- A batch was made. -/
structure SlO (w w' : World) (x : Nat) (F : Nat → Prop) (l : Int) (sv : Value) (Z : List Kp) (o : Kp) : Prop where
  ex : ∃ sv', InZ w' x (Mo w w' F) l sv' (Z ++ [o]) { num := o.num + 1, fr := o.up, up := o.up, v := nl, ts := [] }
  fr : Fr F w w'
theorem InZ.sealed {w : World} {x : Nat} {F : Nat → Prop} {l : Int} {sv : Value} {Z : List Kp} {o : Kp} (h : InZ w x F l sv Z o) {w1 w4 : World} {v1 : Value} (hown : RowG w1 0 80 5 v1 (Z.length + 1) (kpcs Z ++ kpc o)) (hg : w.grownBy w1 sv.ownBlock) (hp : v1.ownBlock = sv.ownBlock ∨ ∃ g, v1.ownBlock = some g ∧ w.heap.size ≤ g)
    (hb4 : BxA w4 x 84 (ixc l v1 { num := o.num + 1, fr := o.up, up := o.up, v := nl, ts := [] })) (hf4 : Fr (fun i => i = x) w1 w4) : SlO w w4 x F l sv Z o := by
  have hxo : o.v.ownBlock ≠ some x := row_ne h.eo.o h.b (by decide)
  have hxs : sv.ownBlock ≠ some x := h.s.ne h.b (by decide)
  have hb1 : BxA w1 x 84 (ixc l sv o) := by have := h.b; unfold BxA at this ⊢; rw [hg.block x h.b.lt fun e => hxs e.symm]; exact this
  have hx1 : v1.ownBlock ≠ some x := hown.ne hb1 (by decide)
  have hk : ∀ r, r < w.heap.size → r ≠ x → sv.ownBlock ≠ some r → w4.heap[r]? = w.heap[r]? := fun r h1 h2 h3 => by rw [hf4.block r (Nat.lt_of_lt_of_le h1 hg.size) h2]; exact hg.block r h1 fun e => h3 e.symm
  have hko : ∀ p, KOk w F p → KOk w4 (Mo w w4 F) p := fun p q => (q.frame fun r hr => hk r (World.ownsRow.lt q.o r hr).2 (fun e => row_ne q.o h.b (by decide) (e ▸ hr)) fun e => h.s.diff q.o (by decide) r e hr).mono fun i => .inl
  refine ⟨⟨v1, hb4, .inl h.f, ?_, fun r hr => ?_, fun p hp' => ?_, ⟨⟨rfl, .inl ⟨rfl, rfl⟩⟩, (fun r hr => by cases hr), by simp, fun u hu => by cases hu⟩, (fun p hp' b hb => by cases hb), fun i hi => ?_⟩, ?_⟩
  · rw [List.length_append, kpcs_append, show kpcs [o] = kpc o by simp [kpcs]]
    exact hown.blk fun r hr => hf4.block r (hown.lt r hr).2 fun e => hx1 (e ▸ hr)
  · rcases hp with e | ⟨g, e, hge⟩
    · exact .inl (h.fs r (e ▸ hr))
    · rw [e] at hr
      injection hr with hr
      subst hr
      exact .inr ⟨hge, Nat.lt_of_lt_of_le (hown.lt _ e).2 hf4.size⟩
  · rcases List.mem_append.1 hp' with q | q
    · exact hko p (h.e p q)
    · simp at q
      subst q
      exact hko _ h.eo
  · rcases hi with q | q
    · exact Nat.lt_of_lt_of_le (h.lt i q) (Nat.le_trans hg.size hf4.size)
    · exact q.2
  · exact (Fr.of_grown (F := F) hg fun j hj => .inl (h.fs j hj)).trans hf4 fun i _ q => by subst q; exact h.f
theorem SlO.from {w w5 w2 : World} {x : Nat} {F : Nat → Prop} {l : Int} {sv : Value} {Z : List Kp} {o : Kp} (h : SlO w5 w2 x F l sv Z o) (hb : Below w.heap.size w w5) : SlO w w2 x F l sv Z o := by
  obtain ⟨v, hv⟩ := h.ex
  exact ⟨⟨v, hv.mono (fun i hi => hi.elim .inl fun q => .inr ⟨Nat.le_trans hb.size q.1, q.2⟩) fun i hi => hi.elim (fun q => hv.lt i (.inl q)) fun q => q.2⟩, (Fr.of_below hb).trans h.fr fun _ _ q => q⟩
/-- Chunks' rows. -/
def ChR (b : Nat) (w : World) (l : Int) (ts : List Int) (v : Value) : Prop := ∃ ss gv, Chks l ts ss ∧ w.ownsRow b 69 3 v ss.length (ccs gv ss) ∧ (∀ k, w.ownsRow b 38 3 (gv k) (ofK (spn l) ts k).length (fcs (ofK (spn l) ts k)))
theorem ChO.row {w0 w w' : World} {l : Int} {ts : List Int} {v : Value} (h : ChO w0 w l ts v) {b : Nat} (hb : b ≤ w0.heap.size) (hf : ∀ r, w0.heap.size ≤ r → w'.heap[r]? = w.heap[r]?) : ChR b w' l ts v := by
  obtain ⟨ss, gv, h1, h2, h3⟩ := h.ex
  exact ⟨ss, gv, h1, own_mono (own_blk h2 fun r hr => hf r (World.ownsRow.lt h2 r hr).1) hb, fun k => own_mono (own_blk (h3 k) fun r hr => hf r (World.ownsRow.lt (h3 k) r hr).1) hb⟩
theorem SlO.fin {w W5 w9 wa wb : World} {x : Nat} {F : Nat → Prop} {l : Int} {sv : Value} {Z : List Kp} {o : Kp} (hs : SlO W5 w9 x F l sv Z o) (hB5 : Below w.heap.size w W5) (hlt : w.heap.size < W5.heap.size) (hF : ∀ i, F i → i < w.heap.size) (hba : Below w9.heap.size w9 wa) (hb : Fr (fun i => i = w.heap.size) wa wb) : SlO w wb x F l sv Z o := by
  obtain ⟨sv', hI⟩ := hs.ex
  have hsz : w9.heap.size ≤ wb.heap.size := Nat.le_trans hba.size hb.size
  have e : ∀ i, Mo W5 w9 F i → wb.heap[i]? = w9.heap[i]? := fun i hi => by
    have h1 := hI.lt i hi
    have h2 : i ≠ w.heap.size := by
      rcases hi with q | q
      · have := hF i q; omega
      · omega
    rw [hb.block i (Nat.lt_of_lt_of_le h1 hba.size) h2, hba.block i h1]
  refine ⟨⟨sv', (hI.frame hsz e).mono (fun i hi => hi.elim .inl fun q => .inr ⟨by omega, by omega⟩) fun i hi => hi.elim (fun q => Nat.lt_of_lt_of_le (hI.lt i (.inl q)) hsz) fun q => q.2⟩, ?_⟩
  exact (((Fr.of_below (F := F) hB5).trans hs.fr fun _ _ q => q).trans (Fr.of_below (F := F) hba) fun _ _ q => q).trans hb fun i hi q => by omega
theorem info_parts5 {P : Program} {e s b c : Nat} (h : (P.info? e).map (fun i => (i.zero.map (·.cells.size), i.size, i.bytes)) = some (some c, s, b)) : ∃ i z, P.info? e = some i ∧ i.zero = some z ∧ z.cells.size = c ∧ i.size = s ∧ i.bytes = b := info_partsI h
theorem Try.info_keptI : (Try.prog.info? 80).map (fun i => (i.zero.map (·.cells.size), i.size, i.bytes)) = some (some 5, 5, 72) := by kernel_rfl
set_option maxRecDepth 20000 in
set_option maxHeartbeats 4000000 in
theorem seal_none (w : World) (x : Nat) (F : Nat → Prop) (l : Int) (sv : Value) (Z : List Kp) (o : Kp) (h : InZ w x F l sv Z o) (hl : 1 ≤ l) (hn : o.up = o.fr) :
    Calls Try.prog 20 #[.pointer (some ⟨x, 0, none⟩)] w fun e w' => e = .returned (.tuple #[.agg #[.int .i64 0, .int .u64 0, .int .u64 0, nl], .int .i64 120]) ∧ Below w.heap.size w w' := by
  obtain ⟨W, hW⟩ : ∃ W, W = w.alloc (.cells #[.int .i64 0, .int .u64 0, .int .u64 0, .slice none 0 0] 51) := ⟨_, rfl⟩
  have hbA : Below w.heap.size w W := by rw [hW]; exact (Below.refl _ _).alloc (Nat.le_refl _) _
  have hT : BxA W w.heap.size 51 #[.int .i64 0, .int .u64 0, .int .u64 0, .slice none 0 0] := by rw [hW]; exact BxA.new _ _ _
  have h2 := h.up hbA
  have kM := made_any _ x F l sv Z o h2 hl
  have c5 : W.cell? ⟨x, 5, none⟩ = some (.int .u64 (o.fr : Int)) := h2.b.cell 5 _ rfl
  have c6 : W.cell? ⟨x, 6, none⟩ = some (.int .u64 (o.fr : Int)) := by rw [← hn]; exact h2.b.cell 6 _ rfl
  obtain ⟨m, hm⟩ : ∃ m, m = o.fr := ⟨_, rfl⟩
  rw [← hm] at c5 c6
  have HBA := hide hbA
  have HT := hide hT
  clear h h2 hbA hT hn hm
  go_enter Try.func20, Try.ntmps20
  go_upto_region 1 with fail
  rw [← hW]
  clear hW
  go_upto_region 3 with (go_at_call 33; refine kM.mono ?_; rintro e w1 ⟨he1, hw1⟩; have hw1 := hw1.symm; subst he1; subst hw1)
  go_quiet (fail)
  obtain ⟨V, hV⟩ : ∃ V, V = W.drewN nq := ⟨_, rfl⟩
  have hgV : Grows W V := by rw [hV]; exact ⟨nq, #[], by rw [grow_empty]⟩
  have HTV := hide (bx_up HT.out hgV.below)
  have HBV : Hid (Below w.heap.size w V) := hide (HBA.out.trans (hgV.below.mono HBA.out.size))
  rw [← hV]
  clear hV hgV c5 c6 kM
  have z0 := HTV.out.cell 0 _ rfl
  have z1 := HTV.out.cell 1 _ rfl
  have z2 := HTV.out.cell 2 _ rfl
  have z3 := HTV.out.cell 3 _ rfl
  have e0 := HTV.out.free 0
  have e1 := HTV.out.free 1
  have e2 := HTV.out.free 2
  have e3 := HTV.out.free 3
  go_wp2_with fail
  have k1 : w.heap.size ≤ w.heap.size := Nat.le_refl _
  have hX : BxA ((((V.setCell ⟨w.heap.size, 0, none⟩ (.int .i64 0)).setCell ⟨w.heap.size, 1, none⟩ (.int .u64 0)).setCell ⟨w.heap.size, 2, none⟩ (.int .u64 0)).setCell ⟨w.heap.size, 3, none⟩ (.slice none 0 0)) w.heap.size 51 #[.int .i64 0, .int .u64 0, .int .u64 0, nl] := (((HTV.out.set 0 _).set 1 _).set 2 _).set 3 _
  exact bodyPost_ret (results_two rfl _ _ w.heap.size 51 _ _ (.int .i64 120) rfl rfl hX Try.underlying51 rfl Try.info_bat) rfl ⟨rfl, (((HBV.out.setCell k1 _).setCell k1 _).setCell k1 _).setCell k1 _⟩
theorem litK {w : World} {g : Nat} {p : Kp} {t : TypeId} (h : BxA w g t (kpa p)) : RdsK 5 w (.slice (some ⟨g, 0, none⟩) 1 1) 1 (kpc p) := by
  refine ⟨some ⟨g, 0, none⟩, 1, rfl, rfl, Nat.le_refl _, by decide, (fun h => by cases h), ?_⟩
  rintro ad ⟨rfl⟩ j u hj
  rw [Addr.add_lit]
  have := h.cell j u (by simpa [kpc] using hj)
  simpa using this
set_option maxRecDepth 20000 in
set_option maxHeartbeats 4000000 in
theorem seal_good (w : World) (x : Nat) (F : Nat → Prop) (l : Int) (sv : Value) (Z : List Kp) (o : Kp) (h : InZ w x F l sv Z o) (hl : 1 ≤ l ∧ l ≤ 1099511627776) (hn : o.fr < o.up) (hZ : Z.length ≤ 1000000) (hup : o.up ≤ 100000) (hnum : 0 ≤ o.num ∧ o.num ≤ 1000000) :
    Calls Try.prog 20 #[.pointer (some ⟨x, 0, none⟩)] w fun e w' => ∃ v, e = .returned (.tuple #[.agg #[.int .i64 o.num, .int .u64 (o.fr : Int), .int .u64 (o.up : Int), v], .int .i64 0]) ∧ SlO w w' x F l sv Z o ∧ ChR w.heap.size w' l o.ts v := by
  obtain ⟨num, fr, up, v, ts⟩ := o
  simp only at hn hup hnum ⊢
  have hrg := h.eo.rg
  simp only at hrg
  have hlen : ts.length ≤ 100000 := by omega
  obtain ⟨va, vc, hv⟩ := own_sl h.eo.o
  simp only at hv
  subst hv
  obtain ⟨sa, sc, hs⟩ := h.s.sl
  obtain ⟨K, hK⟩ : ∃ K, K = ts.length := ⟨_, rfl⟩
  obtain ⟨N, hN⟩ : ∃ N, N = Z.length := ⟨_, rfl⟩
  rw [← hN] at hs
  obtain ⟨i0, z0, hi0, hz0, hz1, hz2, hz3⟩ := info_parts5 Try.info_keptI
  obtain ⟨W, hW⟩ : ∃ W, W = w.alloc (.cells #[.int .i64 0, .int .u64 0, .int .u64 0, .slice none 0 0] 51) := ⟨_, rfl⟩
  have hbA : Below w.heap.size w W := by rw [hW]; exact (Below.refl _ _).alloc (Nat.le_refl _) _
  have hT : BxA W w.heap.size 51 #[.int .i64 0, .int .u64 0, .int .u64 0, .slice none 0 0] := by rw [hW]; exact BxA.new _ _ _
  have h2 := h.up hbA
  have kM := made_any _ x F l sv Z _ h2 hl.1
  have c5 : W.cell? ⟨x, 5, none⟩ = some (.int .u64 (fr : Int)) := h2.b.cell 5 _ rfl
  have c6 : W.cell? ⟨x, 6, none⟩ = some (.int .u64 (up : Int)) := h2.b.cell 6 _ rfl
  have hne : ¬ (up : Int) = (fr : Int) := by omega
  have H := hide h
  have HBA := hide hbA
  have HT := hide hT
  have HS := hide hs
  have HK := hide hK
  have HN := hide hN
  clear h h2 hbA hT hs hK hN hrg
  go_enter Try.func20, Try.ntmps20
  go_upto_region 1 with fail
  rw [← hW]
  clear hW
  go_upto_region 3 with (go_at_call 33; refine kM.mono ?_; rintro e w1 ⟨he1, hw1⟩; have hw1 := hw1.symm; subst he1; subst hw1)
  go_quiet (fail)
  obtain ⟨V, hV⟩ : ∃ V, V = W.drewN nq := ⟨_, rfl⟩
  have hgV : Grows W V := by rw [hV]; exact ⟨nq, #[], by rw [grow_empty]⟩
  have HTV := hide (bx_up HT.out hgV.below)
  have HBV : Hid (Below w.heap.size w V) := hide (HBA.out.trans (hgV.below.mono HBA.out.size))
  have HZV := hide (H.out.up HBV.out)
  rw [← hV]
  clear hV hgV c5 c6 kM
  have c4 : V.cell? ⟨x, 4, none⟩ = some (.int .i64 num) := HZV.out.b.cell 4 _ rfl
  have c5 : V.cell? ⟨x, 5, none⟩ = some (.int .u64 (fr : Int)) := HZV.out.b.cell 5 _ rfl
  have c6 : V.cell? ⟨x, 6, none⟩ = some (.int .u64 (up : Int)) := HZV.out.b.cell 6 _ rfl
  have c7 : V.cell? ⟨x, 7, none⟩ = some nl := HZV.out.b.cell 7 _ rfl
  have c8 : V.cell? ⟨x, 8, none⟩ = some (.slice va ts.length vc) := HZV.out.b.cell 8 _ rfl
  go_upto_region 6 with fail
  obtain ⟨p, hp⟩ : ∃ p : Kp, p = { num := num, fr := fr, up := up, v := .slice va ts.length vc, ts := ts } := ⟨_, rfl⟩
  obtain ⟨V2, hV2⟩ : ∃ V2, V2 = V.alloc (.cells #[.int .i64 num, .int .u64 (fr : Int), .int .u64 (up : Int), .slice none 0 0, .slice va ts.length vc] 80) := ⟨_, rfl⟩
  obtain ⟨g, hg⟩ : ∃ g, g = V.heap.size := ⟨_, rfl⟩
  have hbV : Below V.heap.size V V2 := by rw [hV2]; exact (Below.refl _ _).alloc (Nat.le_refl _) _
  have hG : BxA V2 g 80 (kpa p) := by rw [hV2, hg, hp]; exact BxA.new _ _ _
  have HB2 : Hid (Below w.heap.size w V2) := hide (HBV.out.trans (hbV.mono HBV.out.size))
  have HT2 := hide (bx_up HTV.out hbV)
  have HZ2 := hide (HZV.out.up hbV)
  have HP := hide hp
  have HG := hide hG
  rw [← hp] at HZ2
  have HGN : Hid (g ≠ x ∧ g ≠ w.heap.size ∧ x ≠ w.heap.size) := by
    apply hide
    have h1 := HZV.out.b.lt
    have h2 := HTV.out.lt
    have h3 := H.out.b.lt
    omega
  have HGV : Hid (V.heap.size = g) := hide hg.symm
  rw [← hV2, ← hg]
  have g0 : V2.cell? ⟨g, 0, none⟩ = some (.int .i64 num) := by rw [hp] at hG; exact hG.cell 0 _ rfl
  have g1 : V2.cell? ⟨g, 1, none⟩ = some (.int .u64 (fr : Int)) := by rw [hp] at hG; exact hG.cell 1 _ rfl
  have g2 : V2.cell? ⟨g, 2, none⟩ = some (.int .u64 (up : Int)) := by rw [hp] at hG; exact hG.cell 2 _ rfl
  have g3 : V2.cell? ⟨g, 3, none⟩ = some nl := by rw [hp] at hG; exact hG.cell 3 _ rfl
  have g4 : V2.cell? ⟨g, 4, none⟩ = some (.slice va ts.length vc) := by rw [hp] at hG; exact hG.cell 4 _ rfl
  have c3 : V2.cell? ⟨x, 3, none⟩ = some (.slice sa N sc) := by rw [← HS.out]; exact HZ2.out.b.cell 3 _ rfl
  have c3' : (V2.alloc (.cells #[.int .i64 num, .int .u64 (fr : Int), .int .u64 (up : Int), nl, .slice va ts.length vc] 80)).cell? ⟨x, 3, none⟩ = some (.slice sa N sc) := cell_upB ((Below.refl _ V2).alloc (Nat.le_refl _) _) c3
  clear c4 c5 c6 c7 c8 hbV hG hp hV2 hg
  go_region_law (
    have HL5 : Hid (BxA (V2.alloc (.cells #[.int .i64 num, .int .u64 (fr : Int), .int .u64 (up : Int), nl, .slice va ts.length vc] 80)).drew V2.heap.size 80 (kpa p)) := hide (by rw [HP.out]; exact BxA.new V2 _ _)
    have hb5 : Below V2.heap.size V2 (V2.alloc (.cells #[.int .i64 num, .int .u64 (fr : Int), .int .u64 (up : Int), nl, .slice va ts.length vc] 80)).drew := (((Grows.alloc V2 _).trans (Grows.drew _))).below
    have HZ5 := hide (HZ2.out.up hb5)
    have HB5 := hide (HB2.out.trans (hb5.mono HB2.out.size))
    have HT5 := hide (bx_up HT2.out hb5)
    have HG5 := hide (bx_up HG.out hb5)
    refine step_appG rfl (.tmp 31) (.tmp 33) 82 rfl 0 80 i0 z0 5 72 Try.underlying82 hi0 hz0 hz2 hz3 hz1 (by decide) (.slice sa N sc) N (kpcs Z) rfl (by have := HZ5.out.s; rw [HS.out, ← HN.out] at this; exact this) (.slice (some ⟨V2.heap.size, 0, none⟩) 1 1) 1 (kpc p) rfl (litK HL5.out) (fun u hu => by rw [HP.out] at hu; simp only [kpc, List.mem_cons, List.not_mem_nil, or_false] at hu; rcases hu with rfl | rfl | rfl | rfl | rfl <;> rfl) (by decide) (by have := HN.out; unfold maxLen; omega) (by have := HN.out; omega) (Nat.zero_le _) ?_
    intro v6 w6 o6 g6 p6
    rw [← HS.out] at g6 p6
    obtain ⟨a6, q6, hx6⟩ := o6.sl
    subst hx6
    have hb6 : BxA w6 x 84 (ixc l sv p) := (by have := HZ5.out.b; unfold BxA at this ⊢; rw [g6.block x HZ5.out.b.lt fun e => HZ5.out.s.ne HZ5.out.b (by decide) e.symm]; exact this)
    have ht6 : BxA w6 w.heap.size 51 #[.int .i64 0, .int .u64 0, .int .u64 0, .slice none 0 0] := (by have := HT5.out; unfold BxA at this ⊢; rw [g6.block _ HT5.out.lt fun e => HZ5.out.s.ne HT5.out (by decide) e.symm]; exact this)
    have hg6 : BxA w6 g 80 (kpa p) := (by have := HG5.out; unfold BxA at this ⊢; rw [g6.block _ HG5.out.lt fun e => (by have q := HZ2.out.fs g e.symm; have q2 := H.out.lt g q; have := HBV.out.size; have := HGV.out; omega)]; exact this)
    have HO6 := hide o6
    have HG6 := hide g6
    have HP6 := hide p6
    have HX6 := hide hb6
    have HT6 := hide ht6
    have HK6 := hide hg6
    have k3 : w6.cell? ⟨x, 3, none⟩ = some sv := hb6.cell 3 _ rfl
    have f3 := hb6.free 3
    clear o6 g6 p6 hb6 ht6 hg6 hb5)
  all_goals (
    generalize hW5 : (V2.alloc (.cells #[.int .i64 num, .int .u64 (fr : Int), .int .u64 (up : Int), nl, .slice va ts.length vc] 80)).drew = W5 at *
    clear hW5 HL5 c3 c3' k3 f3 g0 g1 g2 g3 g4
    obtain ⟨v6, hv6⟩ : ∃ v6, v6 = Value.slice a6 (N + 1) q6 := ⟨_, rfl⟩
    obtain ⟨w7, hw7⟩ : ∃ w7, w7 = w6.setCell ⟨x, 3, none⟩ (.slice a6 (N + 1) q6) := ⟨_, rfl⟩
    have hX7 : BxA w7 x 84 (ixc l v6 p) := by rw [hw7, hv6]; exact HX6.out.set 3 _
    have hF7 : Fr (fun i => i = x) w6 w7 := by rw [hw7]; exact Fr.of_grown grown_setCell fun j hj => .inl (by injection hj with hj; exact hj.symm)
    have hT7 : BxA w7 w.heap.size 51 #[.int .i64 0, .int .u64 0, .int .u64 0, .slice none 0 0] := by have := HT6.out; unfold BxA at this ⊢; rw [hF7.block _ HT6.out.lt fun e => HGN.out.2.2 e.symm]; exact this
    have hK7 : BxA w7 g 80 (kpa p) := by have := HK6.out; unfold BxA at this ⊢; rw [hF7.block _ HK6.out.lt fun e => HGN.out.1 e]; exact this
    rw [← hw7, ← hv6]
    have HX7 := hide hX7
    have HF7 := hide hF7
    have HT7 := hide hT7
    have HK7 := hide hK7
    have HV6 := hide hv6
    have g0 : w7.cell? ⟨g, 0, none⟩ = some (.int .i64 num) := by rw [HP.out] at hK7; exact hK7.cell 0 _ rfl
    have g1 : w7.cell? ⟨g, 1, none⟩ = some (.int .u64 (fr : Int)) := by rw [HP.out] at hK7; exact hK7.cell 1 _ rfl
    have g2 : w7.cell? ⟨g, 2, none⟩ = some (.int .u64 (up : Int)) := by rw [HP.out] at hK7; exact hK7.cell 2 _ rfl
    have g3 : w7.cell? ⟨g, 3, none⟩ = some nl := by rw [HP.out] at hK7; exact hK7.cell 3 _ rfl
    have kF := following_any w7 num hnum fr up (by omega)
    clear hX7 hF7 hT7 hK7 hw7 hv6
    go_upto_region 8 with (
      go_at_call 26
      refine kF.mono ?_
      rintro e w8 ⟨he8, hg8⟩
      subst he8
      have hX8 := bx_up HX7.out hg8.below
      have HX8 := hide hX8
      have HT8 := hide (bx_up HT7.out hg8.below)
      have HK8 := hide (bx_up HK7.out hg8.below)
      have HF8 : Hid (Fr (fun i => i = x) w6 w8) := hide (HF7.out.trans (Fr.of_below (F := fun i => i = x) hg8.below) fun _ _ q => q)
      have c4 : w8.cell? ⟨x, 4, none⟩ = some (.int .i64 p.num) := hX8.cell 4 _ rfl
      have c5 : w8.cell? ⟨x, 5, none⟩ = some (.int .u64 (p.fr : Int)) := hX8.cell 5 _ rfl
      have c6 : w8.cell? ⟨x, 6, none⟩ = some (.int .u64 (p.up : Int)) := hX8.cell 6 _ rfl
      have c7 : w8.cell? ⟨x, 7, none⟩ = some nl := hX8.cell 7 _ rfl
      have c8 : w8.cell? ⟨x, 8, none⟩ = some p.v := hX8.cell 8 _ rfl
      have f4 := hX8.free 4
      have f5 := hX8.free 5
      have f6 := hX8.free 6
      have f7 := hX8.free 7
      have f8 := hX8.free 8
      clear hX8 hg8 g0 g1 g2 g3)
    obtain ⟨o', ho'⟩ : ∃ o' : Kp, o' = { num := num + 1, fr := up, up := up, v := nl, ts := [] } := ⟨_, rfl⟩
    obtain ⟨w9, hw9⟩ : ∃ w9, w9 = ((((w8.setCell ⟨x, 4, none⟩ (.int .i64 (num + 1))).setCell ⟨x, 5, none⟩ (.int .u64 (up : Int))).setCell ⟨x, 6, none⟩ (.int .u64 (up : Int))).setCell ⟨x, 7, none⟩ (.slice none 0 0)).setCell ⟨x, 8, none⟩ (.slice none 0 0) := ⟨_, rfl⟩
    have hX9 : BxA w9 x 84 (ixc l v6 o') := by rw [hw9, ho']; exact ((((HX8.out.set 4 _).set 5 _).set 6 _).set 7 _).set 8 _
    have hF9 : Fr (fun i => i = x) w8 w9 := by rw [hw9]; exact Fr.of_grown (grown_trans (grown_trans (grown_trans (grown_trans grown_setCell grown_setCell) grown_setCell) grown_setCell) grown_setCell) fun j hj => .inl (by injection hj with hj; exact hj.symm)
    have hT9 : BxA w9 w.heap.size 51 #[.int .i64 0, .int .u64 0, .int .u64 0, .slice none 0 0] := by have := HT8.out; unfold BxA at this ⊢; rw [hF9.block _ HT8.out.lt fun e => HGN.out.2.2 e.symm]; exact this
    have hK9 : BxA w9 g 80 (kpa p) := by have := HK8.out; unfold BxA at this ⊢; rw [hF9.block _ HK8.out.lt fun e => HGN.out.1 e]; exact this
    have hS9 : SlO W5 w9 x F l sv Z p := HZ5.out.sealed (w1 := w6) (v1 := v6) (by have := HO6.out; rw [HV6.out, ← HN.out]; exact this) HG6.out (by have := HP6.out; rw [HV6.out]; exact this) (by have := hX9; rw [ho'] at this; rw [HP.out]; exact this) (HF8.out.trans hF9 fun _ _ q => q)
    rw [← hw9]
    obtain ⟨sv', hI9⟩ := hS9.ex
    have HP9 : Hid (KOk w9 (Mo W5 w9 F) p) := hide (hI9.e p (by simp))
    have HI9 := hide hI9
    have HS9 := hide hS9
    have HX9 := hide hX9
    have HT9 := hide hT9
    clear hw9 c4 c5 c6 c7 c8 f4 f5 f6 f7 f8 kF hI9 hS9 hF9
    have g0 : w9.cell? ⟨g, 0, none⟩ = some (.int .i64 num) := by rw [HP.out] at hK9; exact hK9.cell 0 _ rfl
    have g1 : w9.cell? ⟨g, 1, none⟩ = some (.int .u64 (fr : Int)) := by rw [HP.out] at hK9; exact hK9.cell 1 _ rfl
    have g2 : w9.cell? ⟨g, 2, none⟩ = some (.int .u64 (up : Int)) := by rw [HP.out] at hK9; exact hK9.cell 2 _ rfl
    have g3 : w9.cell? ⟨g, 3, none⟩ = some nl := by rw [HP.out] at hK9; exact hK9.cell 3 _ rfl
    have g4 : w9.cell? ⟨g, 4, none⟩ = some (.slice va ts.length vc) := by rw [HP.out] at hK9; exact hK9.cell 4 _ rfl
    have c2 : w9.cell? ⟨x, 2, none⟩ = some (.int .i64 l) := hX9.cell 2 _ rfl
    have kT := fun W (hW : ∀ r : Nat, W.heap[r]? = w9.heap[r]?) => told_any W (Mo W5 w9 F) p (HP9.out.frame fun r _ => hW r) l hl (by rw [HP.out]; exact hlen)
    rw [HP.out] at kT
    simp only at kT
    clear hX9 hT9 hK9 ho'
    go_region_with (
      go_at_call 34
      refine (kT w9.drew (fun r => rfl)).mono ?_
      rintro e wa ⟨v, hea, hca⟩
      obtain ⟨ss, gv, -, qa, -⟩ := hca.ex
      obtain ⟨aa, ca, hxa⟩ := own_sl qa
      subst hea
      subst hxa
      have HCA := hide hca
      have hba := (Grows.drew w9).below.trans hca.bl
      have HTA := hide (bx_up HT9.out hba)
      have HBA9 := hide hba
      have z0 := HTA.out.cell 0 _ rfl
      have z1 := HTA.out.cell 1 _ rfl
      have z2 := HTA.out.cell 2 _ rfl
      have z3 := HTA.out.cell 3 _ rfl
      have e0 := HTA.out.free 0
      have e1 := HTA.out.free 1
      have e2 := HTA.out.free 2
      have e3 := HTA.out.free 3
      clear qa hca hba)
    all_goals (
      go_wp2_with fail
      have hXb : BxA ((((wa.setCell ⟨w.heap.size, 0, none⟩ (.int .i64 num)).setCell ⟨w.heap.size, 1, none⟩ (.int .u64 (fr : Int))).setCell ⟨w.heap.size, 2, none⟩ (.int .u64 (up : Int))).setCell ⟨w.heap.size, 3, none⟩ (.slice aa ss.length ca)) w.heap.size 51 #[.int .i64 num, .int .u64 (fr : Int), .int .u64 (up : Int), .slice aa ss.length ca] := (((HTA.out.set 0 _).set 1 _).set 2 _).set 3 _
      have hFb : Fr (fun i => i = w.heap.size) wa ((((wa.setCell ⟨w.heap.size, 0, none⟩ (.int .i64 num)).setCell ⟨w.heap.size, 1, none⟩ (.int .u64 (fr : Int))).setCell ⟨w.heap.size, 2, none⟩ (.int .u64 (up : Int))).setCell ⟨w.heap.size, 3, none⟩ (.slice aa ss.length ca)) := Fr.of_grown (grown_trans (grown_trans (grown_trans grown_setCell grown_setCell) grown_setCell) grown_setCell) fun j hj => .inl (by injection hj with hj; exact hj.symm)
      have hS := HS9.out.fin HB5.out HT5.out.lt H.out.lt HBA9.out hFb
      rw [HP.out] at hS
      have hlt9 := HT9.out.lt
      refine bodyPost_ret (results_two rfl _ _ w.heap.size 51 _ _ (.int .i64 0) rfl rfl hXb Try.underlying51 rfl Try.info_bat) rfl ⟨_, rfl, hS, HCA.out.row (by show w.heap.size ≤ w9.heap.size; omega) fun r hr => ?_⟩
      have hne : r ≠ w.heap.size := by have : w9.heap.size ≤ r := hr; omega
      rw [heap_setCell_other _ _ _ _ hne, heap_setCell_other _ _ _ _ hne, heap_setCell_other _ _ _ _ hne, heap_setCell_other _ _ _ _ hne]))
end Go.Proofs.Ytmnlkmgpikilbaa
