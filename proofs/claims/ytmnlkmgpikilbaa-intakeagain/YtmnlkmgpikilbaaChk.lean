/- chunksOf: the facts by their spans. -/
import Derived.Test.YtmnlkmgpikilbaaGrM
import Derived.Test.YtmnlkmgpikilbaaCpf
import Derived.Test.YtmnlkmgpikilbaaItf
import Derived.Deep.LoopGhost
namespace Go.Proofs.Ytmnlkmgpikilbaa
open Go.RowKit Go.Maps Go.Sort
set_option linter.unusedVariables false

def spn (l t : Int) : K2 := (t / l * l, min (t / l * l + l) 1099511627776)
def T40 (t : Int) : Prop := 0 ≤ t ∧ t < 1099511627776
theorem spn_b2 {l t : Int} (hl : 1 ≤ l ∧ l ≤ 1099511627776) (ht : T40 t) : B2 (spn l t) := by
  have q1 : t / l * l ≤ t := Int.ediv_mul_le t (by omega)
  have q3 : 0 ≤ t / l * l := Int.mul_nonneg (Int.ediv_nonneg ht.1 (by omega)) (by omega)
  have := ht.2
  unfold spn
  constructor <;> simp only <;> omega
theorem cell_upB {w w' : World} (h : Below w.heap.size w w') {a : Addr} {v : Value} (hc : w.cell? a = some v) : w'.cell? a = some v := by rw [h.cell (World.block_lt_of_cell? _ _ hc)]; exact hc
theorem fcs_get (l : List Int) (i : Nat) (h : i < l.length) : (fcs l)[i * 3]? = some (.int .i64 l[i]) ∧ (fcs l)[i * 3 + 1]? = some nl ∧ (fcs l)[i * 3 + 2]? = some nl := by
  induction l generalizing i with
  | nil => simp at h
  | cons a l ih =>
    have e : fcs (a :: l) = [.int .i64 a, nl, nl] ++ fcs l := by simp [fcs]
    cases i with
    | zero => exact ⟨rfl, rfl, rfl⟩
    | succ i =>
      have hi : i < l.length := by simpa using h
      have := ih i hi
      rw [e]
      refine ⟨?_, ?_, ?_⟩
      · rw [List.getElem?_append_right (by simp; omega)]; simpa [show (i + 1) * 3 - 3 = i * 3 by omega] using this.1
      · rw [List.getElem?_append_right (by simp; omega)]; simpa [show (i + 1) * 3 + 1 - 3 = i * 3 + 1 by omega] using this.2.1
      · rw [List.getElem?_append_right (by simp; omega)]; simpa [show (i + 1) * 3 + 2 - 3 = i * 3 + 2 by omega] using this.2.2
theorem Try.info_fctI : (Try.prog.info? 38).map (fun i => (i.zero.map (·.cells.size), i.size, i.bytes)) = some (some 3, 3, 56) := by kernel_rfl
theorem info_partsI {P : Program} {e s b c : Nat} (h : (P.info? e).map (fun i => (i.zero.map (·.cells.size), i.size, i.bytes)) = some (some c, s, b)) : ∃ i z, P.info? e = some i ∧ i.zero = some z ∧ z.cells.size = c ∧ i.size = s ∧ i.bytes = b := by
  cases hi : P.info? e with
  | none => rw [hi] at h; cases h
  | some i =>
    rw [hi] at h
    simp only [Option.map_some, Option.some.injEq, Prod.mk.injEq] at h
    obtain ⟨h1, h2, h3⟩ := h
    cases hz : i.zero with
    | none => rw [hz] at h1; cases h1
    | some z =>
      rw [hz] at h1
      simp only [Option.map_some, Option.some.injEq] at h1
      exact ⟨i, z, rfl, hz, h1, h2, h3⟩
theorem litF {w : World} {g : Nat} {t : Int} (h : BxA w g 38 (fc t)) : RdsK 3 w (.slice (some ⟨g, 0, none⟩) 1 1) 1 (fc1 t) := by
  refine ⟨some ⟨g, 0, none⟩, 1, rfl, rfl, Nat.le_refl _, by decide, (fun h => by cases h), ?_⟩
  rintro ad ⟨rfl⟩ j u hj
  rw [Addr.add_lit]
  have := h.cell j u (by simpa [fc1] using hj)
  simpa using this
theorem own_diff {w : World} {b1 b2 e1 e2 k1 k2 n1 n2 : Nat} {v1 v2 : Value} {xs1 xs2 : List Value} (h1 : w.ownsRow b1 e1 k1 v1 n1 xs1) (h2 : w.ownsRow b2 e2 k2 v2 n2 xs2) (hne : e1 ≠ e2) (b : Nat) (hb : v1.ownBlock = some b) : v2.ownBlock ≠ some b := fun hb2 => by
  rcases h1.2 with ⟨q1, _⟩ | ⟨g, cap, cur, q1, _, q3, _⟩
  · rw [q1] at hb; cases hb
  · rcases h2.2 with ⟨r1, _⟩ | ⟨g', cap', cur', r1, _, r3, _⟩
    · rw [r1] at hb2; cases hb2
    · rw [q1] at hb
      rw [r1] at hb2
      have e1' : g = b := by simpa [Value.ownBlock] using hb
      have e2' : g' = b := by simpa [Value.ownBlock] using hb2
      rw [e1'] at q3
      rw [e2', q3] at r3
      injection r3 with r3
      injection r3 with _ r3 _
      exact hne r3
theorem GrZ.grown {w0 w w' : World} {m : Nat} {sp : Int → K2} {ps : List Int} {gv : K2 → Value} {D : DataW Unit} (h : GrZ w0 w m sp ps gv D) {r : Option Nat} (hg : w.grownBy w' r) (hr : ∀ b, r = some b → w0.heap.size ≤ b ∧ b ≠ m ∧ ∀ k, (gv k).ownBlock ≠ some b) : GrZ w0 w' m sp ps gv D :=
  ⟨map_keep h.mp (hg.block m h.mp.lt fun e => (hr m e.symm).2.1 rfl), h.g.keep fun k b hb => hg.block b (h.g.lt k b hb).2 fun e => (hr b e.symm).2.2 k hb, h.ms, h.bl.trans ⟨hg.os, hg.tape, hg.output, hg.size, fun i hi => hg.block i (by have := h.bl.size; omega) fun e => by have := (hr i e.symm).1; omega⟩⟩
theorem GrZ.look {w0 w : World} {m : Nat} {sp : Int → K2} {ps : List Int} {gv : K2 → Value} {D : DataW Unit} (h : GrZ w0 w m sp ps gv D) (k : K2) (hk : B2 k) : (Instr.lookup 100 (.map (some m)) (.agg #[.int .i64 k.1, .int .i64 k.2]) false).run Try.prog w = .ok (gv k) w := by
  obtain ⟨v, pv, hrun, hv⟩ := h.mp.lookup law Try.underlying100 (z := .slice none 0 0) (Try.zeroValue43 w) (zd := sD (.slice none 0 0)) (zp := []) rfl (key_mk k hk)
  rw [h.g.at' k hk] at hv
  have hvg := sel_at (flat_own (h.g.row k)) hv
  subst hvg
  exact hrun
/-- Chunks as cells. -/
def ccs (gv : K2 → Value) (ss : List K2) : List Value := ss.flatMap fun k => [.int .i64 k.1, .int .i64 k.2, gv k]
theorem ccs_snoc (gv : K2 → Value) (ss : List K2) (k : K2) : ccs gv (ss ++ [k]) = ccs gv ss ++ [.int .i64 k.1, .int .i64 k.2, gv k] := by simp [ccs]
theorem Try.info_chkI : (Try.prog.info? 69).map (fun i => (i.zero.map (·.cells.size), i.size, i.bytes)) = some (some 3, 3, 40) := by kernel_rfl
theorem litC {w : World} {g : Nat} {x y z : Value} {t : TypeId} (h : BxA w g t #[x, y, z]) : RdsK 3 w (.slice (some ⟨g, 0, none⟩) 1 1) 1 [x, y, z] := by
  refine ⟨some ⟨g, 0, none⟩, 1, rfl, rfl, Nat.le_refl _, by decide, (fun h => by cases h), ?_⟩
  rintro ad ⟨rfl⟩ j u hj
  rw [Addr.add_lit]
  have := h.cell j u (by simpa using hj)
  simpa using this
theorem flat_one {v : Value} (h : Flat v) : v.oneCell' = true := by rcases h with ⟨n, m, rfl⟩ | ⟨g, n, m, rfl⟩ <;> rfl
/-- Which chunks facts have: their spans, each once, rising. -/
structure Chks (l : Int) (ts : List Int) (ss : List K2) : Prop where
  nd : ss.Nodup
  srt : ss.Pairwise fun a b => a.1 < b.1
  mem : ∀ k, k ∈ ss ↔ ∃ t ∈ ts, spn l t = k
theorem chks_of {l : Int} (hl : 1 ≤ l ∧ l ≤ 1099511627776) {ts : List Int} (hts : ∀ t ∈ ts, T40 t) {ss : List K2} {D : DataW Unit} (hc : Col D (fun _ => false) ss) (hs : ss.Pairwise fun a b => a.1 ≤ b.1) (hD : ∀ k, B2 k → (Maps.has D (kl k) = true ↔ ∃ t ∈ ts, spn l t = k)) : Chks l ts ss := by
  have hmem : ∀ k, k ∈ ss ↔ ∃ t ∈ ts, spn l t = k := fun k => by
    constructor
    · intro h
      have hb := hc.b2 k h
      exact (hD k hb).1 ((hc.mem k hb).1 h).1
    · rintro ⟨t, ht, rfl⟩
      have hb := spn_b2 hl (hts t ht)
      exact (hc.mem _ hb).2 ⟨(hD _ hb).2 ⟨t, ht, rfl⟩, rfl⟩
  refine ⟨hc.nd, ?_, hmem⟩
  refine List.Pairwise.imp_of_mem (fun {a b} ha hb q => ?_) (hs.and hc.nd)
  obtain ⟨ta, _, ea⟩ := (hmem a).1 ha
  obtain ⟨tb, _, eb⟩ := (hmem b).1 hb
  rcases Int.lt_or_eq_of_le q.1 with h | h
  · exact h
  · exfalso
    refine q.2 ?_
    subst ea
    subst eb
    unfold spn at h ⊢
    simp only at h
    rw [h]
/-- Chunks in new memory. -/
structure ChO (w0 w : World) (l : Int) (ts : List Int) (v : Value) : Prop where
  ex : ∃ ss gv, Chks l ts ss ∧ w.ownsRow w0.heap.size 69 3 v ss.length (ccs gv ss) ∧ (∀ k, w.ownsRow w0.heap.size 38 3 (gv k) (ofK (spn l) ts k).length (fcs (ofK (spn l) ts k)))
  bl : Below w0.heap.size w0 w
set_option maxRecDepth 20000 in
set_option maxHeartbeats 4000000 in
theorem chunks_any (w : World) (l : Int) (hl : 1 ≤ l ∧ l ≤ 1099511627776) (a : Option Addr) (n c : Nat) (ts : List Int) (hr : RdsK 3 w (.slice a n c) n (fcs ts)) (hts : ∀ t ∈ ts, T40 t) (hn : n ≤ 100000) (ha : a = none ∨ ∃ bk o, a = some ⟨bk, o, none⟩) :
    Calls Try.prog 43 #[.slice a n c, .int .i64 l] w fun e w' => ∃ v, e = .returned v ∧ ChO w w' l ts v := by
  have hlen : ts.length = n := by
    obtain ⟨_, _, _, h0, _⟩ := hr
    rw [fcs_length] at h0
    omega
  have hmm := @run_makeMap Try.prog
  obtain ⟨i0, z0, hi0, hz0, hz1, hz2, hz3⟩ := info_partsI Try.info_fctI
  obtain ⟨c0, y0, hc0, hy0, hy1, hy2, hy3⟩ := info_partsI Try.info_chkI
  have HR := hide hr
  have HT := hide hts
  have HL := hide hl
  have HLEN := hide hlen
  clear hr hts hl hlen
  go_enter Try.func43, Try.ntmps43
  go_wp2_with fail
  have hG0 : GrZ w (w.alloc (.map #[] 0)) w.heap.size (spn l) [] (fun _ => .slice none 0 0) (.map []) := by
    refine ⟨World.ownsMap_made w _ _ _, ⟨fun k hk => rfl, fun k hk => ⟨fun h => by simp [Maps.has] at h, (fun h => by obtain ⟨_, h, _⟩ := h; cases h)⟩, fun k => ⟨rfl, .inl ⟨rfl, rfl⟩⟩, (fun k k' _ b hb => by cases hb), ?_, Nat.le_refl _⟩, Nat.le_refl _, (Below.refl _ _).alloc (Nat.le_refl _) _⟩
    exact (World.ownsMap_made w Try.prog 67 sel).tidy law
  obtain ⟨m, hm⟩ : ∃ m, m = w.heap.size := ⟨_, rfl⟩
  rw [← hm] at hG0 ⊢
  clear hm
  have HG0 := hide hG0
  clear hG0
  generalize w.alloc (Obj.map #[] 0) = W0 at *
  go_loopg [15] n (fun kx v15 wr => ∃ (i : Nat) (gv : K2 → Value) (D : DataW Unit), v15 = .int .i64 (i : Int) ∧ i ≤ n ∧ n - i ≤ kx ∧ Hid (GrZ w wr m (spn l) (ts.take i) gv D))
  case atStart => exact ⟨0, _, _, rfl, Nat.zero_le _, Nat.le_refl _, HG0.out⟩
  case round =>
    obtain ⟨i, gv, D, rfl, hi, hkx, HG⟩ := hrel
    by_cases hlt : i < n
    · have hltz : (i : Int) < (n : Int) := by omega
      have hil : i < ts.length := by rw [HLEN.out]; exact hlt
      obtain ⟨t, ht⟩ : ∃ t, t = ts[i] := ⟨_, rfl⟩
      have HTE := hide ht
      have ht40 : T40 t := by rw [ht]; exact HT.out _ (List.getElem_mem hil)
      obtain ⟨ao, cap, hv, h0, h2, h3, h4, h5⟩ := HR.out
      injection hv with e1 e2 e3
      subst e1
      subst e3
      rcases ha with rfl | ⟨bk, o, rfl⟩
      · exact absurd (h4 rfl).1 (by omega)
      · obtain ⟨g1, g2, g3⟩ := fcs_get ts i hil
        rw [← ht] at g1
        have c0 := cell_upB HG.out.bl (h5 _ rfl _ _ g1)
        have c1 := cell_upB HG.out.bl (h5 _ rfl _ _ g2)
        have c2 := cell_upB HG.out.bl (h5 _ rfl _ _ g3)
        rw [Addr.add_lit] at c0 c1 c2
        have c1' : wr.cell? ⟨bk, o + i * 3 + 1, none⟩ = some nl := by rw [Nat.add_assoc]; exact c1
        have c2' : wr.cell? ⟨bk, o + i * 3 + 2, none⟩ = some nl := by rw [Nat.add_assoc]; exact c2
        have HT40 := hide ht40
        clear h0 h2 h3 h4 h5 g1 g2 g3 ht ht40 c1 c2
        have kS := fun W => spanOf_any W t l HT40.out.1 HT40.out.2 HL.out.1 HL.out.2
        obtain ⟨s1, hs1⟩ : ∃ s, s = t / l * l := ⟨_, rfl⟩
        obtain ⟨s2, hs2⟩ : ∃ s, s = min (t / l * l + l) 1099511627776 := ⟨_, rfl⟩
        rw [← hs2, ← hs1] at kS
        have HSP : Hid (spn l t = (s1, s2)) := by apply hide; rw [hs1, hs2]; rfl
        clear hs1 hs2
        go_upto_region 6 with (go_at_call 48; refine (kS _).mono ?_; rintro e w1 ⟨he1, hg1⟩; subst he1; have HG1 := hide hg1; clear hg1)
        have HX0 : Hid (BxA (w1.alloc (.cells #[.int .i64 s1, .int .i64 s2] 67)) wr.heap.size 38 (fc t)) := hide (bx_up (bx_up (BxA.new _ _ _) HG1.out.below) ((Below.refl _ _).alloc (Nat.le_refl _) _))
        have HX1 : Hid (BxA (w1.alloc (.cells #[.int .i64 s1, .int .i64 s2] 67)) w1.heap.size 67 #[.int .i64 s1, .int .i64 s2]) := hide (BxA.new _ _ _)
        have HZ1 : Hid (GrZ w (w1.alloc (.cells #[.int .i64 s1, .int .i64 s2] 67)) m (spn l) (ts.take i) gv D) := hide (((HG.out.up ((Below.refl _ _).alloc (Nat.le_refl _) _)).up HG1.out.below).up ((Below.refl _ _).alloc (Nat.le_refl _) _))
        have HB2 : Hid (B2 (s1, s2)) := by apply hide; rw [← HSP.out]; exact spn_b2 HL.out HT40.out
        have HLL : Hid ((ts.take i).length < maxLen) := by apply hide; rw [List.length_take]; unfold maxLen; omega
        have HOF : Hid (∀ k, (ofK (spn l) (ts.take i) k).length ≤ 100000) := by apply hide; intro k; have := ofK_le (spn l) (ts.take i) k; rw [List.length_take] at this; omega
        clear kS c0 c1' c2' e2
        have HW1S : Hid (wr.heap.size ≤ w1.heap.size) := by apply hide; have := HG1.out.below.size; simp at this; omega
        obtain ⟨g8, hg8⟩ : ∃ g, g = w1.heap.size := ⟨_, rfl⟩
        obtain ⟨W, hW⟩ : ∃ W, W = w1.alloc (.cells #[.int .i64 s1, .int .i64 s2] 67) := ⟨_, rfl⟩
        rw [← hW] at HX0 HX1 HZ1 ⊢
        rw [← hg8] at HX1 ⊢
        clear hW hg8
        refine wp_region_any (by kernel_rfl) ?_
        refine wpAny_take (i := 0) (v := ?_) rfl (by kernel_rfl) (by kernel_rfl) (by kernel_rfl) (fun _ _ _ h => h) (Or.inl ⟨by rfl, ?hy9⟩) ?_
        case hy9 => intro w; go_simp; first | done | with_reducible rfl
        refine wpAny_ready (rs := [1, 2]) (by kernel_rfl) (by simp) ?_
        refine AllReady.cons rfl (fun K hK => ?_) (AllReady.cons rfl (fun K hK => ?_) AllReady.nil)
        · have d0 := HX1.out.cell 0 _ rfl
          have d1 := HX1.out.cell 1 _ rfl
          go_simp
          clear d0 d1
          refine hK _ _ ?_
          clear hK K
          refine wpAny_ready (rs := [2]) (by kernel_rfl) (by simp) ?_
          refine AllReady.cons rfl (fun K hK => ?_) AllReady.nil
          have d0 := HX0.out.cell 0 _ rfl
          have d1 := HX0.out.cell 1 _ rfl
          have d2 := HX0.out.cell 2 _ rfl
          go_simp
          clear d0 d1 d2
          refine hK _ _ ?_
          clear hK K
          refine wpAny_ready (rs := [3]) (by kernel_rfl) (by simp) ?_
          refine AllReady.cons rfl (fun K hK => ?_) AllReady.nil
          go_simp
          go_at_call 38
          refine (copied_plain t _).mono ?_
          rintro e w2 ⟨he2, hg2⟩
          subst he2
          have hg2 := (Grows.drew W).trans hg2
          have HZ2 := hide (HZ1.out.up hg2.below)
          have HX2 := hide (bx_up HX1.out hg2.below)
          clear hg2
          refine hK _ _ ?_
          clear hK K
          refine wpAny_ready (rs := [4]) (by kernel_rfl) (by simp) ?_
          refine AllReady.cons rfl (fun K hK => ?_) AllReady.nil
          go_simp
          have HZ3 := hide (HZ2.out.up ((Below.refl _ _).alloc (Nat.le_refl _) (.cells (fc t) 38)))
          have HX3 := hide (bx_up HX2.out ((Below.refl _ _).alloc (Nat.le_refl _) (.cells (fc t) 38)))
          have HLT3 : Hid (BxA (w2.alloc (.cells (fc t) 38)) w2.heap.size 38 (fc t)) := hide (BxA.new _ _ _)
          have HLm : Hid (w2.heap.size ≠ m) := hide (fun e => by have := HZ2.out.mp.lt; omega)
          obtain ⟨W3, hW3⟩ : ∃ W, W = w2.alloc (.cells (fc t) 38) := ⟨_, rfl⟩
          obtain ⟨g9, hg9⟩ : ∃ g, g = w2.heap.size := ⟨_, rfl⟩
          rw [← hW3] at HZ3 HX3 HLT3
          rw [← hg9] at HLT3 HLm
          rw [← hW3, ← hg9]
          clear hW3 hg9
          refine hK _ _ ?_
          clear hK K
          refine wpAny_ready (rs := [5]) (by kernel_rfl) (by simp) ?_
          refine AllReady.cons rfl (fun K hK => ?_) AllReady.nil
          obtain ⟨born, w5, hrun5, hM5, hsz5, hot5, -⟩ := HZ3.out.entry (s1, s2) HB2.out HLL.out
          simp only [kv] at hrun5
          have hlit : BxA w5 g9 38 (fc t) := by
            have := HLT3.out
            unfold BxA at this ⊢
            rw [hot5 _ HLm.out]
            exact this
          have HM5 := hide hM5
          have HLT := hide hlit
          clear hM5 hsz5 hot5 hlit
          go_simp
          clear hrun5
          refine hK _ _ ?_
          clear hK K
          refine wpAny_take (i := 6) (v := ?_) rfl (by kernel_rfl) (by kernel_rfl) (by kernel_rfl) (fun _ _ _ h => h) (Or.inl ⟨by rfl, ?hy1⟩) ?_
          case hy1 => intro w; go_simp; first | done | with_reducible rfl
          refine wpAny_take (i := 8) (v := ?_) rfl (by kernel_rfl) (by kernel_rfl) (by kernel_rfl) (fun _ _ _ h => h) (Or.inl ⟨by rfl, ?hy2⟩) ?_
          case hy2 => intro w; go_simp; first | done | with_reducible rfl
          refine wpAny_ready (rs := [7]) (by kernel_rfl) (by simp) ?_
          refine AllReady.cons rfl (fun K hK => ?_) AllReady.nil
          refine step_appN rfl (.tmp 25) (.tmp 28) 43 rfl w.heap.size 38 i0 z0 3 56 Try.underlying43 hi0 hz0 hz2 hz3 hz1 (by decide) (gv (s1, s2)) _ _ rfl (HM5.out.g.row (s1, s2)) (.slice (some ⟨g9, 0, none⟩) 1 1) 1 (fc1 t) rfl (litF HLT.out) (fun u hu => by simp only [fc1, List.mem_cons, List.not_mem_nil, or_false] at hu; rcases hu with rfl | rfl | rfl <;> rfl) (by have := HOF.out (s1, s2); unfold maxLen; omega) (by have := HOF.out (s1, s2); omega) (by have := HM5.out.bl.size; exact this) ?_
          intro v6 w6 ho6 hg6 hp6
          obtain ⟨w7, gv7, D7, hrun7, hG7⟩ := HM5.out.done HB2.out t HSP.out ho6 hg6 hp6
          have HG7 := hide hG7
          clear hG7 ho6 hg6 hp6
          refine hK _ _ ?_
          clear hK K
          refine wpAny_ready (rs := [9]) (by kernel_rfl) (by simp) ?_
          refine AllReady.cons rfl (fun K hK => ?_) AllReady.nil
          go_simp
          clear hrun7
          refine hK _ _ ?_
          clear hK K
          refine wpAny_done (by kernel_rfl) ?_ _
          go_wp2_with fail
          go_roundg (n - (i + 1))
          case measure => omega
          case rel => exact ⟨i + 1, gv7, D7, rfl, hlt, Nat.le_refl _, by rw [List.take_succ_eq_append_getElem hil, ← HTE.out]; exact HG7⟩
        · have d0 := HX0.out.cell 0 _ rfl
          have d1 := HX0.out.cell 1 _ rfl
          have d2 := HX0.out.cell 2 _ rfl
          go_simp
          clear d0 d1 d2
          refine hK _ _ ?_
          clear hK K
          refine wpAny_ready (rs := [1, 3]) (by kernel_rfl) (by simp) ?_
          refine AllReady.cons rfl (fun K hK => ?_) (AllReady.cons rfl (fun K hK => ?_) AllReady.nil)
          · have d0 := HX1.out.cell 0 _ rfl
            have d1 := HX1.out.cell 1 _ rfl
            go_simp
            clear d0 d1
            refine hK _ _ ?_
            clear hK K
            refine wpAny_ready (rs := [3]) (by kernel_rfl) (by simp) ?_
            refine AllReady.cons rfl (fun K hK => ?_) AllReady.nil
            go_simp
            go_at_call 38
            refine (copied_plain t _).mono ?_
            rintro e w2 ⟨he2, hg2⟩
            subst he2
            have hg2 := (Grows.drew W).trans hg2
            have HZ2 := hide (HZ1.out.up hg2.below)
            have HX2 := hide (bx_up HX1.out hg2.below)
            clear hg2
            refine hK _ _ ?_
            clear hK K
            refine wpAny_ready (rs := [4]) (by kernel_rfl) (by simp) ?_
            refine AllReady.cons rfl (fun K hK => ?_) AllReady.nil
            go_simp
            have HZ3 := hide (HZ2.out.up ((Below.refl _ _).alloc (Nat.le_refl _) (.cells (fc t) 38)))
            have HX3 := hide (bx_up HX2.out ((Below.refl _ _).alloc (Nat.le_refl _) (.cells (fc t) 38)))
            have HLT3 : Hid (BxA (w2.alloc (.cells (fc t) 38)) w2.heap.size 38 (fc t)) := hide (BxA.new _ _ _)
            have HLm : Hid (w2.heap.size ≠ m) := hide (fun e => by have := HZ2.out.mp.lt; omega)
            obtain ⟨W3, hW3⟩ : ∃ W, W = w2.alloc (.cells (fc t) 38) := ⟨_, rfl⟩
            obtain ⟨g9, hg9⟩ : ∃ g, g = w2.heap.size := ⟨_, rfl⟩
            rw [← hW3] at HZ3 HX3 HLT3
            rw [← hg9] at HLT3 HLm
            rw [← hW3, ← hg9]
            clear hW3 hg9
            refine hK _ _ ?_
            clear hK K
            refine wpAny_ready (rs := [5]) (by kernel_rfl) (by simp) ?_
            refine AllReady.cons rfl (fun K hK => ?_) AllReady.nil
            obtain ⟨born, w5, hrun5, hM5, hsz5, hot5, -⟩ := HZ3.out.entry (s1, s2) HB2.out HLL.out
            simp only [kv] at hrun5
            have hlit : BxA w5 g9 38 (fc t) := by
              have := HLT3.out
              unfold BxA at this ⊢
              rw [hot5 _ HLm.out]
              exact this
            have HM5 := hide hM5
            have HLT := hide hlit
            clear hM5 hsz5 hot5 hlit
            go_simp
            clear hrun5
            refine hK _ _ ?_
            clear hK K
            refine wpAny_take (i := 6) (v := ?_) rfl (by kernel_rfl) (by kernel_rfl) (by kernel_rfl) (fun _ _ _ h => h) (Or.inl ⟨by rfl, ?hy3⟩) ?_
            case hy3 => intro w; go_simp; first | done | with_reducible rfl
            refine wpAny_take (i := 8) (v := ?_) rfl (by kernel_rfl) (by kernel_rfl) (by kernel_rfl) (fun _ _ _ h => h) (Or.inl ⟨by rfl, ?hy4⟩) ?_
            case hy4 => intro w; go_simp; first | done | with_reducible rfl
            refine wpAny_ready (rs := [7]) (by kernel_rfl) (by simp) ?_
            refine AllReady.cons rfl (fun K hK => ?_) AllReady.nil
            refine step_appN rfl (.tmp 25) (.tmp 28) 43 rfl w.heap.size 38 i0 z0 3 56 Try.underlying43 hi0 hz0 hz2 hz3 hz1 (by decide) (gv (s1, s2)) _ _ rfl (HM5.out.g.row (s1, s2)) (.slice (some ⟨g9, 0, none⟩) 1 1) 1 (fc1 t) rfl (litF HLT.out) (fun u hu => by simp only [fc1, List.mem_cons, List.not_mem_nil, or_false] at hu; rcases hu with rfl | rfl | rfl <;> rfl) (by have := HOF.out (s1, s2); unfold maxLen; omega) (by have := HOF.out (s1, s2); omega) (by have := HM5.out.bl.size; exact this) ?_
            intro v6 w6 ho6 hg6 hp6
            obtain ⟨w7, gv7, D7, hrun7, hG7⟩ := HM5.out.done HB2.out t HSP.out ho6 hg6 hp6
            have HG7 := hide hG7
            clear hG7 ho6 hg6 hp6
            refine hK _ _ ?_
            clear hK K
            refine wpAny_ready (rs := [9]) (by kernel_rfl) (by simp) ?_
            refine AllReady.cons rfl (fun K hK => ?_) AllReady.nil
            go_simp
            clear hrun7
            refine hK _ _ ?_
            clear hK K
            refine wpAny_done (by kernel_rfl) ?_ _
            go_wp2_with fail
            go_roundg (n - (i + 1))
            case measure => omega
            case rel => exact ⟨i + 1, gv7, D7, rfl, hlt, Nat.le_refl _, by rw [List.take_succ_eq_append_getElem hil, ← HTE.out]; exact HG7⟩
          · go_simp
            go_at_call 38
            refine (copied_plain t _).mono ?_
            rintro e w2 ⟨he2, hg2⟩
            subst he2
            have hg2 := (Grows.drew W).trans hg2
            have HZ2 := hide (HZ1.out.up hg2.below)
            have HX2 := hide (bx_up HX1.out hg2.below)
            clear hg2
            refine hK _ _ ?_
            clear hK K
            refine wpAny_ready (rs := [1, 4]) (by kernel_rfl) (by simp) ?_
            refine AllReady.cons rfl (fun K hK => ?_) (AllReady.cons rfl (fun K hK => ?_) AllReady.nil)
            · have d0 := HX2.out.cell 0 _ rfl
              have d1 := HX2.out.cell 1 _ rfl
              go_simp
              clear d0 d1
              refine hK _ _ ?_
              clear hK K
              refine wpAny_ready (rs := [4]) (by kernel_rfl) (by simp) ?_
              refine AllReady.cons rfl (fun K hK => ?_) AllReady.nil
              go_simp
              have HZ3 := hide (HZ2.out.up ((Below.refl _ _).alloc (Nat.le_refl _) (.cells (fc t) 38)))
              have HX3 := hide (bx_up HX2.out ((Below.refl _ _).alloc (Nat.le_refl _) (.cells (fc t) 38)))
              have HLT3 : Hid (BxA (w2.alloc (.cells (fc t) 38)) w2.heap.size 38 (fc t)) := hide (BxA.new _ _ _)
              have HLm : Hid (w2.heap.size ≠ m) := hide (fun e => by have := HZ2.out.mp.lt; omega)
              obtain ⟨W3, hW3⟩ : ∃ W, W = w2.alloc (.cells (fc t) 38) := ⟨_, rfl⟩
              obtain ⟨g9, hg9⟩ : ∃ g, g = w2.heap.size := ⟨_, rfl⟩
              rw [← hW3] at HZ3 HX3 HLT3
              rw [← hg9] at HLT3 HLm
              rw [← hW3, ← hg9]
              clear hW3 hg9
              refine hK _ _ ?_
              clear hK K
              refine wpAny_ready (rs := [5]) (by kernel_rfl) (by simp) ?_
              refine AllReady.cons rfl (fun K hK => ?_) AllReady.nil
              obtain ⟨born, w5, hrun5, hM5, hsz5, hot5, -⟩ := HZ3.out.entry (s1, s2) HB2.out HLL.out
              simp only [kv] at hrun5
              have hlit : BxA w5 g9 38 (fc t) := by
                have := HLT3.out
                unfold BxA at this ⊢
                rw [hot5 _ HLm.out]
                exact this
              have HM5 := hide hM5
              have HLT := hide hlit
              clear hM5 hsz5 hot5 hlit
              go_simp
              clear hrun5
              refine hK _ _ ?_
              clear hK K
              refine wpAny_take (i := 6) (v := ?_) rfl (by kernel_rfl) (by kernel_rfl) (by kernel_rfl) (fun _ _ _ h => h) (Or.inl ⟨by rfl, ?hy5⟩) ?_
              case hy5 => intro w; go_simp; first | done | with_reducible rfl
              refine wpAny_take (i := 8) (v := ?_) rfl (by kernel_rfl) (by kernel_rfl) (by kernel_rfl) (fun _ _ _ h => h) (Or.inl ⟨by rfl, ?hy6⟩) ?_
              case hy6 => intro w; go_simp; first | done | with_reducible rfl
              refine wpAny_ready (rs := [7]) (by kernel_rfl) (by simp) ?_
              refine AllReady.cons rfl (fun K hK => ?_) AllReady.nil
              refine step_appN rfl (.tmp 25) (.tmp 28) 43 rfl w.heap.size 38 i0 z0 3 56 Try.underlying43 hi0 hz0 hz2 hz3 hz1 (by decide) (gv (s1, s2)) _ _ rfl (HM5.out.g.row (s1, s2)) (.slice (some ⟨g9, 0, none⟩) 1 1) 1 (fc1 t) rfl (litF HLT.out) (fun u hu => by simp only [fc1, List.mem_cons, List.not_mem_nil, or_false] at hu; rcases hu with rfl | rfl | rfl <;> rfl) (by have := HOF.out (s1, s2); unfold maxLen; omega) (by have := HOF.out (s1, s2); omega) (by have := HM5.out.bl.size; exact this) ?_
              intro v6 w6 ho6 hg6 hp6
              obtain ⟨w7, gv7, D7, hrun7, hG7⟩ := HM5.out.done HB2.out t HSP.out ho6 hg6 hp6
              have HG7 := hide hG7
              clear hG7 ho6 hg6 hp6
              refine hK _ _ ?_
              clear hK K
              refine wpAny_ready (rs := [9]) (by kernel_rfl) (by simp) ?_
              refine AllReady.cons rfl (fun K hK => ?_) AllReady.nil
              go_simp
              clear hrun7
              refine hK _ _ ?_
              clear hK K
              refine wpAny_done (by kernel_rfl) ?_ _
              go_wp2_with fail
              go_roundg (n - (i + 1))
              case measure => omega
              case rel => exact ⟨i + 1, gv7, D7, rfl, hlt, Nat.le_refl _, by rw [List.take_succ_eq_append_getElem hil, ← HTE.out]; exact HG7⟩
            · go_simp
              have HZ3 := hide (HZ2.out.up ((Below.refl _ _).alloc (Nat.le_refl _) (.cells (fc t) 38)))
              have HX3 := hide (bx_up HX2.out ((Below.refl _ _).alloc (Nat.le_refl _) (.cells (fc t) 38)))
              have HLT3 : Hid (BxA (w2.alloc (.cells (fc t) 38)) w2.heap.size 38 (fc t)) := hide (BxA.new _ _ _)
              have HLm : Hid (w2.heap.size ≠ m) := hide (fun e => by have := HZ2.out.mp.lt; omega)
              obtain ⟨W3, hW3⟩ : ∃ W, W = w2.alloc (.cells (fc t) 38) := ⟨_, rfl⟩
              obtain ⟨g9, hg9⟩ : ∃ g, g = w2.heap.size := ⟨_, rfl⟩
              rw [← hW3] at HZ3 HX3 HLT3
              rw [← hg9] at HLT3 HLm
              rw [← hW3, ← hg9]
              clear hW3 hg9
              refine hK _ _ ?_
              clear hK K
              refine wpAny_ready (rs := [1]) (by kernel_rfl) (by simp) ?_
              refine AllReady.cons rfl (fun K hK => ?_) AllReady.nil
              have d0 := HX3.out.cell 0 _ rfl
              have d1 := HX3.out.cell 1 _ rfl
              go_simp
              clear d0 d1
              refine hK _ _ ?_
              clear hK K
              refine wpAny_ready (rs := [5]) (by kernel_rfl) (by simp) ?_
              refine AllReady.cons rfl (fun K hK => ?_) AllReady.nil
              obtain ⟨born, w5, hrun5, hM5, hsz5, hot5, -⟩ := HZ3.out.entry (s1, s2) HB2.out HLL.out
              simp only [kv] at hrun5
              have hlit : BxA w5 g9 38 (fc t) := by
                have := HLT3.out
                unfold BxA at this ⊢
                rw [hot5 _ HLm.out]
                exact this
              have HM5 := hide hM5
              have HLT := hide hlit
              clear hM5 hsz5 hot5 hlit
              go_simp
              clear hrun5
              refine hK _ _ ?_
              clear hK K
              refine wpAny_take (i := 6) (v := ?_) rfl (by kernel_rfl) (by kernel_rfl) (by kernel_rfl) (fun _ _ _ h => h) (Or.inl ⟨by rfl, ?hy7⟩) ?_
              case hy7 => intro w; go_simp; first | done | with_reducible rfl
              refine wpAny_take (i := 8) (v := ?_) rfl (by kernel_rfl) (by kernel_rfl) (by kernel_rfl) (fun _ _ _ h => h) (Or.inl ⟨by rfl, ?hy8⟩) ?_
              case hy8 => intro w; go_simp; first | done | with_reducible rfl
              refine wpAny_ready (rs := [7]) (by kernel_rfl) (by simp) ?_
              refine AllReady.cons rfl (fun K hK => ?_) AllReady.nil
              refine step_appN rfl (.tmp 25) (.tmp 28) 43 rfl w.heap.size 38 i0 z0 3 56 Try.underlying43 hi0 hz0 hz2 hz3 hz1 (by decide) (gv (s1, s2)) _ _ rfl (HM5.out.g.row (s1, s2)) (.slice (some ⟨g9, 0, none⟩) 1 1) 1 (fc1 t) rfl (litF HLT.out) (fun u hu => by simp only [fc1, List.mem_cons, List.not_mem_nil, or_false] at hu; rcases hu with rfl | rfl | rfl <;> rfl) (by have := HOF.out (s1, s2); unfold maxLen; omega) (by have := HOF.out (s1, s2); omega) (by have := HM5.out.bl.size; exact this) ?_
              intro v6 w6 ho6 hg6 hp6
              obtain ⟨w7, gv7, D7, hrun7, hG7⟩ := HM5.out.done HB2.out t HSP.out ho6 hg6 hp6
              have HG7 := hide hG7
              clear hG7 ho6 hg6 hp6
              refine hK _ _ ?_
              clear hK K
              refine wpAny_ready (rs := [9]) (by kernel_rfl) (by simp) ?_
              refine AllReady.cons rfl (fun K hK => ?_) AllReady.nil
              go_simp
              clear hrun7
              refine hK _ _ ?_
              clear hK K
              refine wpAny_done (by kernel_rfl) ?_ _
              go_wp2_with fail
              go_roundg (n - (i + 1))
              case measure => omega
              case rel => exact ⟨i + 1, gv7, D7, rfl, hlt, Nat.le_refl _, by rw [List.take_succ_eq_append_getElem hil, ← HTE.out]; exact HG7⟩
    · have hin : i = n := by omega
      subst hin
      rw [show ts.take i = ts from List.take_of_length_le (by rw [HLEN.out]; exact Nat.le_refl _)] at HG
      have hltz : ¬ (i : Int) < (i : Int) := by omega
      have HM := hide (HG.out.up ((Below.refl _ _).alloc (Nat.le_refl _) (.cells #[.map (some m)] 100)))
      have kS := sorted_any (wr.alloc (.cells #[.map (some m)] 100)) wr.heap.size m _ D ((BxA.new wr _ _).cell 0 _ rfl) HM.out.mp (by have := HG.out.g.sz; rw [HLEN.out] at this; omega)
      go_wp2_with (first
        | (go_at_call 50; refine (keys_any _ _).mono ?_; rintro e w1 ⟨he1, hw1⟩; subst he1; subst hw1)
        | (go_at_call 49; refine kS.mono ?_; rintro e w2 ⟨sv, ss, he2, hcol, hsrt, hrds, ⟨ao2, cap2, hsv, hao2⟩, hsl, hb2⟩; subst he2; subst hsv; have HKS := hide hsl; have HCOL := hide hcol; have HSRT := hide hsrt; have HRDS := hide hrds; have HZ2 := hide (HM.out.up hb2); clear hcol hsrt hrds hb2 hsl))
      obtain ⟨K, hK⟩ : ∃ K, K = ss.length := ⟨_, rfl⟩
      have HKL := hide hK
      rw [← hK] at HRDS ⊢
      clear hK kS
      have HKB : Hid (K ≤ 1000000) := by apply hide; rw [HKL.out]; exact HKS.out
      go_loopg [9, 37] K (fun kx v9 v37 wq => ∃ (j : Nat) (x9 : Value), x9 = v9 ∧ v37 = .int .i64 (j : Int) ∧ j ≤ K ∧ K - j ≤ kx ∧ Hid (wq.ownsRow w2.heap.size 69 3 x9 j (ccs gv (ss.take j))) ∧ Hid (Below w2.heap.size w2 wq))
      case atStart => exact ⟨0, _, rfl, rfl, Nat.zero_le _, Nat.le_refl _, ⟨rfl, .inl ⟨rfl, rfl⟩⟩, Below.refl _ _⟩
      case round =>
        obtain ⟨j, x9, hx9, rfl, hj, hkx2, HACC, HBQ⟩ := hrel
        subst hx9
        by_cases hjl : j < K
        · have hjz : (j : Int) < (K : Int) := by omega
          have hjs : j < ss.length := by rw [← HKL.out]; exact hjl
          obtain ⟨k, hk⟩ : ∃ k, k = ss[j] := ⟨_, rfl⟩
          have HKE := hide hk
          have hb2k : B2 k := by rw [hk]; exact HCOL.out.b2 _ (List.getElem_mem hjs)
          obtain ⟨ao', cap', hv', h0', h2', h3', h4', h5'⟩ := HRDS.out
          injection hv' with e1 e2 e3
          subst e1
          subst e3
          rcases hao2 with rfl | ⟨g2, rfl⟩
          · exact absurd (h4' rfl).1 (by omega)
          · have q0 := kcs_get ss j 0 hjs (by omega)
            have q1 := kcs_get ss j 1 hjs (by omega)
            rw [← hk] at q0 q1
            have d0 := cell_upB HBQ.out (h5' _ rfl _ _ q0)
            have d1 := cell_upB HBQ.out (h5' _ rfl _ _ q1)
            rw [Addr.add_lit, Nat.zero_add, Nat.add_zero] at d0
            rw [Addr.add_lit, Nat.zero_add] at d1
            unfold maxLen at h3'
            obtain ⟨k1, k2⟩ := k
            simp only at d0 d1
            have HB2K := hide hb2k
            clear q0 q1 h0' h4' h5' hk hb2k
            go_upto_region 12 with fail
            have HX1 : Hid (BxA (wr.alloc (.cells #[.int .i64 k1, .int .i64 k2] 67)) wr.heap.size 67 #[.int .i64 k1, .int .i64 k2]) := hide (BxA.new _ _ _)
            have hbA : Below wr.heap.size wr (wr.alloc (.cells #[.int .i64 k1, .int .i64 k2] 67)) := (Below.refl _ _).alloc (Nat.le_refl _) _
            have HBA : Hid (Below w2.heap.size w2 (wr.alloc (.cells #[.int .i64 k1, .int .i64 k2] 67))) := hide (HBQ.out.trans (hbA.mono HBQ.out.size))
            have HAC : Hid ((wr.alloc (.cells #[.int .i64 k1, .int .i64 k2] 67)).ownsRow w2.heap.size 69 3 x9 j (ccs gv (ss.take j))) := hide (own_blk HACC.out fun r hr => hbA.block r (World.ownsRow.lt HACC.out r hr).2)
            obtain ⟨W, hW⟩ : ∃ W, W = wr.alloc (.cells #[.int .i64 k1, .int .i64 k2] 67) := ⟨_, rfl⟩
            obtain ⟨g8, hg8⟩ : ∃ g, g = wr.heap.size := ⟨_, rfl⟩
            rw [← hW] at HX1 HBA HAC ⊢
            rw [← hg8] at HX1 ⊢
            clear hW hg8 d0 d1 hbA
            have hlk := (HZ2.out.up (HBA.out.trans ((Grows.drew W).below.mono HBA.out.size))).look (k1, k2) HB2K.out
            obtain ⟨fa, fcap, hgv⟩ := own_sl (HZ2.out.g.row (k1, k2))
            obtain ⟨fn, hfn⟩ : ∃ f, f = (ofK (spn l) ts (k1, k2)).length := ⟨_, rfl⟩
            rw [← hfn] at hgv
            rw [hgv] at hlk
            have HGV := hide hgv
            clear hgv hfn
            simp only at hlk
            refine wp_region_any (by kernel_rfl) ?_
            refine wpAny_take (i := 0) (v := ?_) rfl (by kernel_rfl) (by kernel_rfl) (by kernel_rfl) (fun _ _ _ h => h) (Or.inl ⟨by rfl, ?hy16⟩) ?_
            case hy16 => intro w; go_simp; first | done | with_reducible rfl
            refine wpAny_take (i := 2) (v := ?_) rfl (by kernel_rfl) (by kernel_rfl) (by kernel_rfl) (fun _ _ _ h => h) (Or.inl ⟨by rfl, ?hy17⟩) ?_
            case hy17 => intro w; go_simp; first | done | with_reducible rfl
            refine wpAny_ready (rs := [1, 3]) (by kernel_rfl) (by simp) ?_
            refine AllReady.cons rfl (fun K hK => ?_) (AllReady.cons rfl (fun K hK => ?_) AllReady.nil)
            · have d0 := HX1.out.cell 0 _ rfl
              have d1 := HX1.out.cell 1 _ rfl
              go_simp
              clear d0 d1
              refine hK _ _ ?_
              clear hK K
              refine wpAny_ready (rs := [3]) (by kernel_rfl) (by simp) ?_
              refine AllReady.cons rfl (fun K hK => ?_) AllReady.nil
              have d0 := HX1.out.cell 0 _ rfl
              have d1 := HX1.out.cell 1 _ rfl
              go_simp
              clear d0 d1
              refine hK _ _ ?_
              clear hK K
              refine wpAny_ready (rs := [4]) (by kernel_rfl) (by simp) ?_
              refine AllReady.cons rfl (fun K hK => ?_) AllReady.nil
              go_simp
              refine hK _ _ ?_
              clear hK K
              refine wpAny_take (i := 5) (v := ?_) rfl (by kernel_rfl) (by kernel_rfl) (by kernel_rfl) (fun _ _ _ h => h) (Or.inl ⟨by rfl, ?hy10⟩) ?_
              case hy10 => intro w; go_simp; first | done | with_reducible rfl
              refine wpAny_ready (rs := [6]) (by kernel_rfl) (by simp) ?_
              refine AllReady.cons rfl (fun K hK => ?_) AllReady.nil
              go_simp
              have HLC : Hid (BxA (W.drew.alloc (.cells #[.int .i64 k1, .int .i64 k2, .slice fa fn fcap] 69)) W.heap.size 69 #[.int .i64 k1, .int .i64 k2, .slice fa fn fcap]) := hide (BxA.new W.drew _ _)
              have hbd : Below W.heap.size W (W.drew.alloc (.cells #[.int .i64 k1, .int .i64 k2, .slice fa fn fcap] 69)) := (Grows.drew W).below.trans ((Below.refl _ W.drew).alloc (Nat.le_refl _) _)
              have HBD := hide (HBA.out.trans (hbd.mono HBA.out.size))
              have HAD : Hid ((W.drew.alloc (.cells #[.int .i64 k1, .int .i64 k2, .slice fa fn fcap] 69)).ownsRow w2.heap.size 69 3 x9 j (ccs gv (ss.take j))) := hide (own_blk HAC.out fun r hr => hbd.block r (World.ownsRow.lt HAC.out r hr).2)
              clear hbd
              refine hK _ _ ?_
              clear hK K
              refine wpAny_ready (rs := [7]) (by kernel_rfl) (by simp) ?_
              refine AllReady.cons rfl (fun K hK => ?_) AllReady.nil
              refine step_appN rfl (.tmp 41) (.tmp 47) 49 rfl w2.heap.size 69 c0 y0 3 40 Try.underlying49 hc0 hy0 hy2 hy3 hy1 (by decide) x9 j _ rfl HAD.out (.slice (some ⟨W.heap.size, 0, none⟩) 1 1) 1 [.int .i64 k1, .int .i64 k2, .slice fa fn fcap] rfl (litC HLC.out) (fun u hu => by simp only [List.mem_cons, List.not_mem_nil, or_false] at hu; rcases hu with rfl | rfl | rfl <;> rfl) (by have := HKB.out; unfold maxLen; omega) (by have := HKB.out; omega) (by have := HBD.out.size; exact this) ?_
              intro v6 w6 ho6 hg6 hp6
              have HO6 := hide ho6
              have HBE : Hid (Below w2.heap.size w2 w6) := hide (HBD.out.trans ⟨hg6.os, hg6.tape, hg6.output, hg6.size, fun q hq => hg6.block q (Nat.lt_of_lt_of_le hq HBD.out.size) fun e => by have := (World.ownsRow.lt HAD.out q e.symm).1; omega⟩)
              clear ho6 hg6 hp6
              refine hK _ _ ?_
              clear hK K
              refine wpAny_take (i := 8) (v := ?_) rfl (by kernel_rfl) (by kernel_rfl) (by kernel_rfl) (fun _ _ _ h => h) (Or.inl ⟨by rfl, ?hy11⟩) ?_
              case hy11 => intro w; go_simp; first | done | with_reducible rfl
              refine wpAny_done (by kernel_rfl) ?_ _
              go_wp2_with fail
              go_roundg (K - (j + 1))
              case measure => omega
              case rel => exact ⟨j + 1, v6, rfl, rfl, hjl, Nat.le_refl _, by rw [List.take_succ_eq_append_getElem hjs, ← HKE.out, ccs_snoc]; simp only; rw [HGV.out]; exact HO6, HBE⟩
            · have d0 := HX1.out.cell 0 _ rfl
              have d1 := HX1.out.cell 1 _ rfl
              go_simp
              clear d0 d1
              refine hK _ _ ?_
              clear hK K
              refine wpAny_ready (rs := [1, 4]) (by kernel_rfl) (by simp) ?_
              refine AllReady.cons rfl (fun K hK => ?_) (AllReady.cons rfl (fun K hK => ?_) AllReady.nil)
              · have d0 := HX1.out.cell 0 _ rfl
                have d1 := HX1.out.cell 1 _ rfl
                go_simp
                clear d0 d1
                refine hK _ _ ?_
                clear hK K
                refine wpAny_ready (rs := [4]) (by kernel_rfl) (by simp) ?_
                refine AllReady.cons rfl (fun K hK => ?_) AllReady.nil
                go_simp
                refine hK _ _ ?_
                clear hK K
                refine wpAny_take (i := 5) (v := ?_) rfl (by kernel_rfl) (by kernel_rfl) (by kernel_rfl) (fun _ _ _ h => h) (Or.inl ⟨by rfl, ?hy12⟩) ?_
                case hy12 => intro w; go_simp; first | done | with_reducible rfl
                refine wpAny_ready (rs := [6]) (by kernel_rfl) (by simp) ?_
                refine AllReady.cons rfl (fun K hK => ?_) AllReady.nil
                go_simp
                have HLC : Hid (BxA (W.drew.alloc (.cells #[.int .i64 k1, .int .i64 k2, .slice fa fn fcap] 69)) W.heap.size 69 #[.int .i64 k1, .int .i64 k2, .slice fa fn fcap]) := hide (BxA.new W.drew _ _)
                have hbd : Below W.heap.size W (W.drew.alloc (.cells #[.int .i64 k1, .int .i64 k2, .slice fa fn fcap] 69)) := (Grows.drew W).below.trans ((Below.refl _ W.drew).alloc (Nat.le_refl _) _)
                have HBD := hide (HBA.out.trans (hbd.mono HBA.out.size))
                have HAD : Hid ((W.drew.alloc (.cells #[.int .i64 k1, .int .i64 k2, .slice fa fn fcap] 69)).ownsRow w2.heap.size 69 3 x9 j (ccs gv (ss.take j))) := hide (own_blk HAC.out fun r hr => hbd.block r (World.ownsRow.lt HAC.out r hr).2)
                clear hbd
                refine hK _ _ ?_
                clear hK K
                refine wpAny_ready (rs := [7]) (by kernel_rfl) (by simp) ?_
                refine AllReady.cons rfl (fun K hK => ?_) AllReady.nil
                refine step_appN rfl (.tmp 41) (.tmp 47) 49 rfl w2.heap.size 69 c0 y0 3 40 Try.underlying49 hc0 hy0 hy2 hy3 hy1 (by decide) x9 j _ rfl HAD.out (.slice (some ⟨W.heap.size, 0, none⟩) 1 1) 1 [.int .i64 k1, .int .i64 k2, .slice fa fn fcap] rfl (litC HLC.out) (fun u hu => by simp only [List.mem_cons, List.not_mem_nil, or_false] at hu; rcases hu with rfl | rfl | rfl <;> rfl) (by have := HKB.out; unfold maxLen; omega) (by have := HKB.out; omega) (by have := HBD.out.size; exact this) ?_
                intro v6 w6 ho6 hg6 hp6
                have HO6 := hide ho6
                have HBE : Hid (Below w2.heap.size w2 w6) := hide (HBD.out.trans ⟨hg6.os, hg6.tape, hg6.output, hg6.size, fun q hq => hg6.block q (Nat.lt_of_lt_of_le hq HBD.out.size) fun e => by have := (World.ownsRow.lt HAD.out q e.symm).1; omega⟩)
                clear ho6 hg6 hp6
                refine hK _ _ ?_
                clear hK K
                refine wpAny_take (i := 8) (v := ?_) rfl (by kernel_rfl) (by kernel_rfl) (by kernel_rfl) (fun _ _ _ h => h) (Or.inl ⟨by rfl, ?hy13⟩) ?_
                case hy13 => intro w; go_simp; first | done | with_reducible rfl
                refine wpAny_done (by kernel_rfl) ?_ _
                go_wp2_with fail
                go_roundg (K - (j + 1))
                case measure => omega
                case rel => exact ⟨j + 1, v6, rfl, rfl, hjl, Nat.le_refl _, by rw [List.take_succ_eq_append_getElem hjs, ← HKE.out, ccs_snoc]; simp only; rw [HGV.out]; exact HO6, HBE⟩
              · go_simp
                refine hK _ _ ?_
                clear hK K
                refine wpAny_ready (rs := [1]) (by kernel_rfl) (by simp) ?_
                refine AllReady.cons rfl (fun K hK => ?_) AllReady.nil
                have d0 := HX1.out.cell 0 _ rfl
                have d1 := HX1.out.cell 1 _ rfl
                go_simp
                clear d0 d1
                refine hK _ _ ?_
                clear hK K
                refine wpAny_take (i := 5) (v := ?_) rfl (by kernel_rfl) (by kernel_rfl) (by kernel_rfl) (fun _ _ _ h => h) (Or.inl ⟨by rfl, ?hy14⟩) ?_
                case hy14 => intro w; go_simp; first | done | with_reducible rfl
                refine wpAny_ready (rs := [6]) (by kernel_rfl) (by simp) ?_
                refine AllReady.cons rfl (fun K hK => ?_) AllReady.nil
                go_simp
                have HLC : Hid (BxA (W.drew.alloc (.cells #[.int .i64 k1, .int .i64 k2, .slice fa fn fcap] 69)) W.heap.size 69 #[.int .i64 k1, .int .i64 k2, .slice fa fn fcap]) := hide (BxA.new W.drew _ _)
                have hbd : Below W.heap.size W (W.drew.alloc (.cells #[.int .i64 k1, .int .i64 k2, .slice fa fn fcap] 69)) := (Grows.drew W).below.trans ((Below.refl _ W.drew).alloc (Nat.le_refl _) _)
                have HBD := hide (HBA.out.trans (hbd.mono HBA.out.size))
                have HAD : Hid ((W.drew.alloc (.cells #[.int .i64 k1, .int .i64 k2, .slice fa fn fcap] 69)).ownsRow w2.heap.size 69 3 x9 j (ccs gv (ss.take j))) := hide (own_blk HAC.out fun r hr => hbd.block r (World.ownsRow.lt HAC.out r hr).2)
                clear hbd
                refine hK _ _ ?_
                clear hK K
                refine wpAny_ready (rs := [7]) (by kernel_rfl) (by simp) ?_
                refine AllReady.cons rfl (fun K hK => ?_) AllReady.nil
                refine step_appN rfl (.tmp 41) (.tmp 47) 49 rfl w2.heap.size 69 c0 y0 3 40 Try.underlying49 hc0 hy0 hy2 hy3 hy1 (by decide) x9 j _ rfl HAD.out (.slice (some ⟨W.heap.size, 0, none⟩) 1 1) 1 [.int .i64 k1, .int .i64 k2, .slice fa fn fcap] rfl (litC HLC.out) (fun u hu => by simp only [List.mem_cons, List.not_mem_nil, or_false] at hu; rcases hu with rfl | rfl | rfl <;> rfl) (by have := HKB.out; unfold maxLen; omega) (by have := HKB.out; omega) (by have := HBD.out.size; exact this) ?_
                intro v6 w6 ho6 hg6 hp6
                have HO6 := hide ho6
                have HBE : Hid (Below w2.heap.size w2 w6) := hide (HBD.out.trans ⟨hg6.os, hg6.tape, hg6.output, hg6.size, fun q hq => hg6.block q (Nat.lt_of_lt_of_le hq HBD.out.size) fun e => by have := (World.ownsRow.lt HAD.out q e.symm).1; omega⟩)
                clear ho6 hg6 hp6
                refine hK _ _ ?_
                clear hK K
                refine wpAny_take (i := 8) (v := ?_) rfl (by kernel_rfl) (by kernel_rfl) (by kernel_rfl) (fun _ _ _ h => h) (Or.inl ⟨by rfl, ?hy15⟩) ?_
                case hy15 => intro w; go_simp; first | done | with_reducible rfl
                refine wpAny_done (by kernel_rfl) ?_ _
                go_wp2_with fail
                go_roundg (K - (j + 1))
                case measure => omega
                case rel => exact ⟨j + 1, v6, rfl, rfl, hjl, Nat.le_refl _, by rw [List.take_succ_eq_append_getElem hjs, ← HKE.out, ccs_snoc]; simp only; rw [HGV.out]; exact HO6, HBE⟩
        · have hjK : j = K := by omega
          subst hjK
          have hltz2 : ¬ (j : Int) < (j : Int) := by omega
          go_wp2_with fail
          go_ret
          have HZF := HZ2.out.up HBQ.out
          refine ⟨_, rfl, ⟨ss, gv, chks_of HL.out HT.out HCOL.out HSRT.out HZ2.out.g.has, ?_, fun k => HZF.g.row k⟩, HZF.bl⟩
          have ho := HACC.out
          rw [List.take_of_length_le (by rw [← HKL.out]; exact Nat.le_refl _)] at ho
          rw [← HKL.out]
          refine ⟨ho.1, ?_⟩
          rcases ho.2 with h2 | ⟨g', cap, cur, e1, e2, e3, e4⟩
          · exact .inl h2
          · exact .inr ⟨g', cap, cur, e1, Nat.le_trans HZ2.out.bl.size e2, e3, e4⟩
end Go.Proofs.Ytmnlkmgpikilbaa
