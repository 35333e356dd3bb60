/- What the laws ask of a timeline's answers, said purely. No walk stands here. -/
import Derived.Test.YtgbmigfamefenaaMad
import Derived.OpenShut
import Derived.SliceStrings
import Derived.SizedLaws
namespace Go.Proofs.Ytgbmigfamefenaa
open Go.Shelf Go.RowKit Go.Maps Go.Sort
set_option linter.unusedVariables false

theorem hasB_iff {l : List Sg} {k : K3} {p : Int} : hasB l k p = true ↔ ∃ x ∈ l, x.1 = k ∧ x.2.1 = p := by
  unfold hasB
  rw [List.any_eq_true]
  refine exists_congr fun x => and_congr_right fun _ => ?_
  rw [Bool.and_eq_true, decide_eq_true_eq, decide_eq_true_eq]
/-- A segment of a state: its set is complete, just if all first parts are there. -/
theorem wh_iff {s : List Es} {l : List Sg} (hs : Wf s) (hp : (sgs s).Perm l) {g : Sg} (hg : g ∈ l) : whB l g = true ↔ g.1 ∈ CK s := by
  obtain ⟨e, he, h1, h2, h3⟩ := mem_sgs.1 (hp.mem_iff.2 hg)
  have hco := (hs.ok e he).co
  have hmem : ∀ p : Int, (∃ x ∈ l, x.1 = g.1 ∧ x.2.1 = p) ↔ p ∈ e.2.2 := by
    intro p
    constructor
    · rintro ⟨x, hx, q1, rfl⟩
      obtain ⟨f, hf, r1, r2, r3⟩ := mem_sgs.1 (hp.mem_iff.2 hx)
      rw [key_once hs.nd he hf (h1.symm.trans (q1.symm.trans r1))]
      exact r2
    · intro q
      exact ⟨(e.1, p, e.2.1), hp.mem_iff.1 (mem_sgs.2 ⟨e, he, rfl, q, rfl⟩), h1.symm, rfl⟩
  rw [mem_CK]
  constructor
  · intro h
    refine ⟨e, he, h1.symm, (cmpl_iff hco (hs.up e he) (hs.lo e he)).2 fun q q1 q2 => ?_⟩
    unfold whB at h
    rw [List.all_eq_true] at h
    have := h q.toNat (List.mem_range.2 (by omega))
    rw [hasB_iff, hmem] at this
    rw [show ((q.toNat : Nat) : Int) = q by omega] at this
    exact this
  · rintro ⟨f, hf, q1, q2⟩
    rw [key_once hs.nd hf he (q1.trans h1)] at q2
    have hc := (cmpl_iff hco (hs.up e he) (hs.lo e he)).1 q2
    unfold whB
    rw [List.all_eq_true]
    intro q hq
    rw [hasB_iff, hmem]
    exact hc q (by omega) (by have := List.mem_range.1 hq; omega)
/-- A complete set has a segment. -/
theorem ck_seg {s : List Es} {l : List Sg} (hs : Wf s) (hp : (sgs s).Perm l) {k : K3} (hk : k ∈ CK s) : ∃ g ∈ l, g.1 = k ∧ whB l g = true := by
  obtain ⟨e, he, rfl, hc⟩ := mem_CK.1 hk
  obtain ⟨p, ps, q⟩ : ∃ p ps, e.2.2 = p :: ps := by
    cases hq : e.2.2 with
    | nil => exact absurd hq (hs.ne e he)
    | cons a l => exact ⟨a, l, rfl⟩
  have hm : (e.1, p, e.2.1) ∈ l := hp.mem_iff.1 (mem_sgs.2 ⟨e, he, rfl, by rw [q]; exact List.mem_cons_self .., rfl⟩)
  exact ⟨_, hm, rfl, (wh_iff hs hp hm).2 hk⟩
theorem sgsOf_pos {s : List Es} (hs : Wf s) {k : K3} (hk : k ∈ CK s) : 0 < (sgsOf s k).length := by
  obtain ⟨e, he, rfl, _⟩ := mem_CK.1 hk
  rw [sgsOf_in hs.nd he]
  unfold sgE
  rw [List.length_map]
  exact List.length_pos_iff.2 (hs.ne e he)
/-- Of one time at most one stretch is told. -/
theorem one_cut {C : List K3} {o : List S3} {a : Int} (h : Cut C o a (a + 1)) : o = [] ∨ ∃ t, o = [t] ∧ t.2.1 = a ∧ t.2.2 = a + 1 ∧ Bst C a t.1 := by
  match o, h with
  | [], _ => exact .inl rfl
  | [t], h =>
    have h1 := h.ne t (List.mem_cons_self ..)
    have h2 := h.wi t (List.mem_cons_self ..)
    have h3 := h.is t (List.mem_cons_self ..) a (by omega) (by omega)
    exact .inr ⟨t, rfl, by omega, by omega, h3⟩
  | t :: u :: o, h =>
    exfalso
    have h1 := h.ne t (List.mem_cons_self ..)
    have h2 := h.wi t (List.mem_cons_self ..)
    have h3 := h.ne u (List.mem_cons_of_mem _ (List.mem_cons_self ..))
    have h4 := h.wi u (List.mem_cons_of_mem _ (List.mem_cons_self ..))
    have h5 := (List.pairwise_cons.1 h.ch).1 u (List.mem_cons_self ..)
    omega
theorem lkF_one (s : List Es) (t : S3) : lkF s [t] = pcs s t := by simp [lkF]
/-- How many segments of a set there are. -/
theorem count_key {s : List Es} (h : (s.map Prod.fst).Nodup) (k : K3) : (sgs s).countP (fun g => decide (g.1 = k)) = (sgsOf s k).length := by
  by_cases hin : ∃ e ∈ s, e.1 = k
  · obtain ⟨e, he, rfl⟩ := hin
    rw [sgsOf_in h he]
    obtain ⟨a, b, rfl⟩ := List.append_of_mem he
    have hno : ∀ x, (x ∈ a ∨ x ∈ b) → x.1 ≠ e.1 := by
      intro x hx q
      rw [List.map_append, List.map_cons, List.nodup_append] at h
      obtain ⟨h1, h2, h3⟩ := h
      rw [List.nodup_cons] at h2
      rcases hx with hx | hx
      · exact h3 x.1 (List.mem_map.2 ⟨x, hx, rfl⟩) e.1 (List.mem_cons_self ..) q
      · exact h2.1 (q ▸ List.mem_map.2 ⟨x, hx, rfl⟩)
    have zero : ∀ l : List Es, (∀ x ∈ l, x.1 ≠ e.1) → (sgs l).countP (fun g => decide (g.1 = e.1)) = 0 := by
      intro l hl
      rw [List.countP_eq_zero]
      intro g hg
      obtain ⟨f, hf, q, _⟩ := mem_sgs.1 hg
      rw [decide_eq_true_eq, q]
      exact hl f hf
    have hsplit : sgs (a ++ e :: b) = sgs a ++ (sgE e ++ sgs b) := by unfold sgs; rw [List.flatMap_append, List.flatMap_cons]
    rw [hsplit, List.countP_append, List.countP_append, zero a fun x hx => hno x (.inl hx), zero b fun x hx => hno x (.inr hx), Nat.zero_add, Nat.add_zero, List.countP_eq_length]
    intro g hg
    rw [decide_eq_true_eq]
    exact (mem_sgE.1 hg).1
  · rw [sgsOf_out fun e he q => hin ⟨e, he, q⟩, List.length_nil, List.countP_eq_zero]
    intro g hg
    obtain ⟨e, he, q, _⟩ := mem_sgs.1 hg
    rw [decide_eq_true_eq, q]
    exact fun r => hin ⟨e, he, r⟩
/-- LineAll's two answers. -/
def hdB (l : List Sg) (T : Int) (x : Sg) : Bool := decide (x.1.1 ≤ T) && (decide (T < x.1.2.1) && whB l x)
theorem all_say {s : List Es} {l : List Sg} (hs : Wf s) (hp : (sgs s).Perm l) {T : Int} {out : List S3} (h : Say (keysF (pC T (T + 1) s) s) out 1099511627776) :
    l.any (hdB l T) = decide (0 < (lkF s (cutS T (T + 1) out)).length) ∧ ∀ p0, (lkF s (cutS T (T + 1) out))[0]? = some p0 → l.countP (fun g => decide (g.1 = p0.1.1)) = (lkF s (cutS T (T + 1) out)).length := by
  have hc := cut_of hs h
  obtain ⟨o, ho⟩ : ∃ o, o = cutS T (T + 1) out := ⟨_, rfl⟩
  rw [← ho] at hc ⊢
  rcases one_cut hc with rfl | ⟨t, rfl, h1, h2, h3⟩
  · refine ⟨?_, fun p0 q => by simp [lkF] at q⟩
    simp only [lkF, List.flatMap_nil, List.length_nil, Nat.lt_irrefl, decide_false]
    rw [List.any_eq_false]
    intro x hx hh
    unfold hdB at hh
    rw [Bool.and_eq_true, Bool.and_eq_true, decide_eq_true_eq, decide_eq_true_eq, wh_iff hs hp hx] at hh
    obtain ⟨u, hu, _⟩ := hc.all T (Int.le_refl _) (by omega) ⟨x.1, hh.2.2, hh.1, hh.2.1⟩
    cases hu
  · have hpos := sgsOf_pos hs h3.mem
    rw [lkF_one]
    have hlen : (pcs s t).length = (sgsOf s t.1).length := by unfold pcs; rw [List.length_map]
    constructor
    · rw [hlen, decide_eq_true hpos, List.any_eq_true]
      obtain ⟨g, hg, q1, q2⟩ := ck_seg hs hp h3.mem
      refine ⟨g, hg, ?_⟩
      unfold hdB
      rw [Bool.and_eq_true, Bool.and_eq_true, decide_eq_true_eq, decide_eq_true_eq, q1]
      exact ⟨h3.hl.1, h3.hl.2, q2⟩
    · intro p0 q
      have hm := List.mem_of_getElem? q
      unfold pcs at hm
      obtain ⟨g, hg, rfl⟩ := List.mem_map.1 hm
      have hgk : g.1 = t.1 := ((mem_sgsOf hs.nd).1 hg).2
      rw [hlen]
      simp only [hgk]
      rw [← count_key hs.nd t.1]
      exact (hp.countP_eq _).symm
end Go.Proofs.Ytgbmigfamefenaa

namespace Go.Proofs.Ytgbmigfamefenaa
open Go.Shelf Go.RowKit Go.Maps Go.Sort
set_option linter.unusedVariables false

def sA : List Es := [((0, 10, 0), 1, [0])]
def sB : List Es := [((0, 10, 0), 1, [0]), ((3, 6, 1), 2, [0])]
def sC : List Es := [((0, 10, 0), 1, [0]), ((3, 6, 1), 2, [0, 1])]
theorem add_A : addF [] ((0, 10, 0), 0, 1) = (0, sA) := by decide +kernel
theorem add_B : addF sA ((3, 6, 1), 0, 2) = (0, sB) := by decide +kernel
theorem add_C : addF sB ((3, 6, 1), 1, 2) = (0, sC) := by decide +kernel
theorem ck_B : CK sB = [(0, 10, 0)] := by decide +kernel
theorem ck_C : CK sC = [(0, 10, 0), (3, 6, 1)] := by decide +kernel
theorem say_B {out : List S3} (h : Say (keysF (pC 0 8 sB) sB) out 1099511627776) : out = [((0, 10, 0), 0, 10)] := by
  have hL : ∀ k, k ∈ keysF (pC 0 8 sB) sB ↔ k = (0, 10, 0) := by
    intro k
    rw [mem_LK, ck_B, List.mem_singleton]
    constructor
    · rintro ⟨q, _⟩; exact q
    · rintro rfl; exact ⟨rfl, by decide⟩
  refine say_unique (fun _ _ _ => Iff.rfl) h ⟨?_, ?_, trivial, ?_, ?_, ?_⟩
  · intro s hs; simp at hs; subst hs; decide
  · exact List.pairwise_singleton ..
  · intro s hs; simp at hs; subst hs; decide
  · intro s hs x h1 h2
    simp at hs; subst hs
    exact ⟨(hL _).2 rfl, ⟨h1, h2⟩, fun o ho _ => .inl ((hL _).1 ho)⟩
  · rintro x hx ⟨k, hk, h2⟩
    have := (hL _).1 hk
    subst this
    exact ⟨_, List.mem_singleton.2 rfl, h2.1, h2.2⟩
theorem say_C {out : List S3} (h : Say (keysF (pC 0 8 sC) sC) out 1099511627776) : out = [((0, 10, 0), 0, 3), ((3, 6, 1), 3, 6), ((0, 10, 0), 6, 10)] := by
  have hL : ∀ k, k ∈ keysF (pC 0 8 sC) sC ↔ k = (0, 10, 0) ∨ k = (3, 6, 1) := by
    intro k
    rw [mem_LK, ck_C, List.mem_cons, List.mem_singleton]
    constructor
    · rintro ⟨q, _⟩; exact q
    · rintro (rfl | rfl)
      · exact ⟨.inl rfl, by decide⟩
      · exact ⟨.inr rfl, by decide⟩
  refine say_unique (fun _ _ _ => Iff.rfl) h ⟨?_, ?_, ?_, ?_, ?_, ?_⟩
  · intro s hs; simp at hs; rcases hs with rfl | rfl | rfl <;> decide
  · unfold Chn; decide +kernel
  · exact ⟨by decide, by decide, trivial⟩
  · intro s hs; simp at hs; rcases hs with rfl | rfl | rfl <;> decide
  · intro s hs x h1 h2
    simp at hs
    rcases hs with rfl | rfl | rfl
    · simp only at h1 h2
      refine ⟨(hL _).2 (.inl rfl), ⟨by simp only; omega, by simp only; omega⟩, fun o ho hx => ?_⟩
      rcases (hL _).1 ho with rfl | rfl
      · exact .inl rfl
      · unfold Hl at hx; simp only at hx; omega
    · simp only at h1 h2
      refine ⟨(hL _).2 (.inr rfl), ⟨by simp only; omega, by simp only; omega⟩, fun o ho hx => ?_⟩
      rcases (hL _).1 ho with rfl | rfl
      · exact .inr (by unfold Ahd; simp only; omega)
      · exact .inl rfl
    · simp only at h1 h2
      refine ⟨(hL _).2 (.inl rfl), ⟨by simp only; omega, by simp only; omega⟩, fun o ho hx => ?_⟩
      rcases (hL _).1 ho with rfl | rfl
      · exact .inl rfl
      · unfold Hl at hx; simp only at hx; omega
  · rintro x hx ⟨k, hk, h2⟩
    unfold Hl at h2
    rcases (hL _).1 hk with rfl | rfl
    · simp only at h2
      by_cases h3 : x < 3
      · exact ⟨((0, 10, 0), 0, 3), by simp, by simp only; omega, by simp only; omega⟩
      · by_cases h6 : x < 6
        · exact ⟨((3, 6, 1), 3, 6), by simp, by simp only; omega, by simp only; omega⟩
        · exact ⟨((0, 10, 0), 6, 10), by simp, by simp only; omega, by simp only; omega⟩
    · simp only at h2
      exact ⟨((3, 6, 1), 3, 6), by simp, by simp only; omega, by simp only; omega⟩
theorem lk_B : lkF sB (cutS 0 8 [((0, 10, 0), 0, 10)]) = [(((0, 10, 0), 0, 1), 0, 8)] := by decide +kernel
theorem lk_C : lkF sC (cutS 0 8 [((0, 10, 0), 0, 3), ((3, 6, 1), 3, 6), ((0, 10, 0), 6, 10)]) = [(((0, 10, 0), 0, 1), 0, 3), (((3, 6, 1), 0, 2), 3, 6), (((3, 6, 1), 1, 2), 3, 6), (((0, 10, 0), 0, 1), 6, 8)] := by decide +kernel
theorem wf_A : Wf sA := by have := (add_wf Wf.nil ((0, 10, 0), 0, 1) ⟨by decide, by decide, by decide, by decide, by decide, by decide⟩).1; rw [add_A] at this; exact this
theorem wf_B : Wf sB := by have := (add_wf wf_A ((3, 6, 1), 0, 2) ⟨by decide, by decide, by decide, by decide, by decide, by decide⟩).1; rw [add_B] at this; exact this
theorem wf_C : Wf sC := by have := (add_wf wf_B ((3, 6, 1), 1, 2) ⟨by decide, by decide, by decide, by decide, by decide, by decide⟩).1; rw [add_C] at this; exact this
/-- A timeline in new memory, and boxes that aren't its. -/
structure Tn (w0 w : World) (t : Nat) (F : Nat → Prop) (s : List Es) : Prop where
  tl : Tl w t F s
  fn : ∀ i, F i → w0.heap.size ≤ i
  bel : Below w0.heap.size w0 w
theorem Tn.up {w0 w w' : World} {t : Nat} {F : Nat → Prop} {s : List Es} (h : Tn w0 w t F s) (hb : Below w.heap.size w w') : Tn w0 w' t F s := ⟨h.tl.below hb, h.fn, h.bel.trans (hb.mono h.bel.size)⟩
theorem Tn.step {w0 w w' : World} {t : Nat} {F F' : Nat → Prop} {s s' : List Es} (h : Tn w0 w t F s) (k : Tw w w' t F s' F') : Tn w0 w' t F' s' := by
  refine ⟨k.tl, fun i hi => ?_, h.bel.trans (k.fr.below h.bel.size h.fn)⟩
  rcases k.dn i hi with q | q
  · exact h.fn i q
  · have := h.bel.size; omega
structure Bo (w : World) (F : Nat → Prop) (b : Nat) (ty : TypeId) (cs : Array Value) : Prop where
  x : BxA w b ty cs
  n : ¬ F b
theorem Bo.up {w w' : World} {F : Nat → Prop} {b : Nat} {ty : TypeId} {cs : Array Value} (h : Bo w F b ty cs) (hb : Below w.heap.size w w') : Bo w' F b ty cs := ⟨h.x.up hb, h.n⟩
theorem Bo.step {w w' : World} {t : Nat} {F F' : Nat → Prop} {s' : List Es} {b : Nat} {ty : TypeId} {cs : Array Value} (h : Bo w F b ty cs) (k : Tw w w' t F s' F') : Bo w' F' b ty cs := by
  refine ⟨h.x.fr k.fr h.n, fun q => ?_⟩
  rcases k.dn b q with r | r
  · exact h.n r
  · have := h.x.lt; omega
theorem AtP.up {w w' : World} {b o : Nat} {p : Pc} (h : AtP w b o p) (hb : Below w.heap.size w w') : AtP w' b o p := by
  have up : ∀ o' u, w.cell? ⟨b, o', none⟩ = some u → w'.cell? ⟨b, o', none⟩ = some u := fun o' u hu => (hb.cell (World.block_lt_of_cell? _ _ hu)).trans hu
  exact ⟨h.g.up hb, up _ _ h.c5, up _ _ h.c6⟩
theorem AtP.fr {w w' : World} {F : Nat → Prop} {b o : Nat} {p : Pc} (h : AtP w b o p) (hb : Fr F w w') (hn : ¬ F b) : AtP w' b o p := by
  have up : ∀ o' u, w.cell? ⟨b, o', none⟩ = some u → w'.cell? ⟨b, o', none⟩ = some u := fun o' u hu => by
    rw [World.cell?_of_block (w := w) (hb.block b (World.block_lt_of_cell? _ _ hu) hn)]
    exact hu
  exact ⟨⟨up _ _ h.g.c0, up _ _ h.g.c1, up _ _ h.g.c2, up _ _ h.g.c3, up _ _ h.g.c4⟩, up _ _ h.c5, up _ _ h.c6⟩
set_option maxRecDepth 100000 in
set_option maxHeartbeats 12800000 in
theorem awake_any (w : World) : Calls Try.prog 9 #[] w fun e w' => e = .returned (.bool true) ∧ Below w.heap.size w w' := by
  have mixed : Try.prog.follows .mixedOrders = true := by kernel_rfl
  have kN := new_any w
  obtain ⟨t, ht⟩ : ∃ t, t = w.heap.size := ⟨_, rfl⟩
  rw [← ht] at kN
  have HTT := hide ht
  clear ht
  go_enter Try.func9, Try.ntmps9
  go_wp2_with fail
  refine kN.mono ?_
  rintro ev w1 ⟨rfl, tl1, b1⟩
  have ht1 : Tn w w1 t (fun i => i = t) [] := ⟨tl1, fun i hi => by have := HTT.out; omega, by rw [HTT.out] at b1; exact b1⟩
  obtain ⟨b2, hb2⟩ : ∃ b, b = w1.heap.size := ⟨_, rfl⟩
  obtain ⟨w2, hw2⟩ : ∃ w2, w2 = w1.alloc (.cells #[.int .i64 0, .int .i64 10, .int .i64 0, .int .i64 0, .int .i64 1] 32) := ⟨_, rfl⟩
  obtain ⟨w3, hw3⟩ : ∃ w3, w3 = w2.alloc (.cells #[.int .i64 3, .int .i64 6, .int .i64 1, .int .i64 0, .int .i64 2] 32) := ⟨_, rfl⟩
  obtain ⟨w4, hw4⟩ : ∃ w4, w4 = w3.alloc (.cells #[.int .i64 3, .int .i64 6, .int .i64 1, .int .i64 1, .int .i64 2] 32) := ⟨_, rfl⟩
  have hs2 : w2.heap.size = b2 + 1 := by rw [hw2, hb2]; simp
  have hs3 : w3.heap.size = b2 + 2 := by rw [hw3]; simp [hs2]
  have g12 : Below w1.heap.size w1 w2 := by rw [hw2]; exact (Grows.alloc _ _).below
  have g23 : Below w2.heap.size w2 w3 := by rw [hw3]; exact (Grows.alloc _ _).below
  have g34 : Below w3.heap.size w3 w4 := by rw [hw4]; exact (Grows.alloc _ _).below
  have hlt : t < w1.heap.size := tl1.lt t rfl
  have o2 : Bo w4 (fun i => i = t) b2 32 #[.int .i64 0, .int .i64 10, .int .i64 0, .int .i64 0, .int .i64 1] := by
    refine ⟨BxA.up (BxA.up ?_ g23) g34, by omega⟩
    rw [hb2, hw2]; exact BxA.new _ _ _
  have o3 : Bo w4 (fun i => i = t) (b2 + 1) 32 #[.int .i64 3, .int .i64 6, .int .i64 1, .int .i64 0, .int .i64 2] := by
    refine ⟨BxA.up ?_ g34, by omega⟩
    rw [← hs2, hw3]; exact BxA.new _ _ _
  have o4 : Bo w4 (fun i => i = t) (b2 + 2) 32 #[.int .i64 3, .int .i64 6, .int .i64 1, .int .i64 1, .int .i64 2] := by
    refine ⟨?_, by omega⟩
    rw [← hs3, hw4]; exact BxA.new _ _ _
  have ht4 : Tn w w4 t (fun i => i = t) [] := ((ht1.up g12).up g23).up g34
  have HW4 : Hid (w4 = ((w1.alloc (.cells #[.int .i64 0, .int .i64 10, .int .i64 0, .int .i64 0, .int .i64 1] 32)).alloc (.cells #[.int .i64 3, .int .i64 6, .int .i64 1, .int .i64 0, .int .i64 2] 32)).alloc (.cells #[.int .i64 3, .int .i64 6, .int .i64 1, .int .i64 1, .int .i64 2] 32)) := by apply hide; rw [hw4, hw3, hw2]
  have kA := add_any w4 t _ [] 0 10 0 0 1 ht4.tl Wf.nil ⟨by decide, by decide, by decide, by decide, by decide, by decide⟩ (by simp) (by simp)
  rw [add_A] at kA
  have HO2 := hide o2
  have HO3 := hide o3
  have HO4 := hide o4
  have HT4 := hide ht4
  have HB2 := hide hb2
  have c0 := o2.x.cell 0 _ rfl
  have c1 := o2.x.cell 1 _ rfl
  have c2 := o2.x.cell 2 _ rfl
  have c3 := o2.x.cell 3 _ rfl
  have c4 := o2.x.cell 4 _ rfl
  clear kN tl1 b1 ht1 hb2 hw2 hw3 hw4 hs2 hs3 g12 g23 g34 hlt o2 o3 o4 ht4
  go_upto_region 7 with fail
  rw [← HW4.out, ← HB2.out]
  go_wp2_with fail
  refine kA.mono ?_
  rintro ev w5 ⟨rfl, F5, k5⟩
  have HT5 := hide (HT4.out.step k5)
  have HP2 := hide (HO2.out.step k5)
  have HP3 := hide (HO3.out.step k5)
  have HP4 := hide (HO4.out.step k5)
  have kB := add_any w5 t F5 sA 3 6 1 0 2 HT5.out.tl wf_A ⟨by decide, by decide, by decide, by decide, by decide, by decide⟩ (by decide) (by decide)
  rw [add_B] at kB
  clear kA k5 c0 c1 c2 c3 c4
  have c0 := HP3.out.x.cell 0 _ rfl
  have c1 := HP3.out.x.cell 1 _ rfl
  have c2 := HP3.out.x.cell 2 _ rfl
  have c3 := HP3.out.x.cell 3 _ rfl
  have c4 := HP3.out.x.cell 4 _ rfl
  go_wp2_with fail
  refine kB.mono ?_
  rintro ev w6 ⟨rfl, F6, k6⟩
  have HT6 := hide (HT5.out.step k6)
  have HQ2 := hide (HP2.out.step k6)
  have HQ4 := hide (HP4.out.step k6)
  have kL := lookup_any w6 t F6 sB 0 8 HT6.out.tl wf_B (by decide) (by decide)
  clear kB k6 c0 c1 c2 c3 c4
  go_wp2_with fail
  refine kL.mono ?_
  rintro ev w7 ⟨vx, rfl, out, sy, o7, b7⟩
  obtain rfl := say_B sy
  rw [lk_B] at o7
  have HT7 := hide (HT6.out.up b7)
  have HR2 := hide (HQ2.out.up b7)
  have HR4 := hide (HQ4.out.up b7)
  have hx7 := (RdsK.of_own o7).pieces
  obtain ⟨xa, xc, hvx, hxc1, hxc2, hxc3⟩ := hx7
  obtain ⟨xb, xo, hxa, hxat⟩ := hxc3 (by decide)
  have hAX : AtP w7 xb xo (((0, 10, 0), 0, 1), 0, 8) := by
    have := hxat 0 (by decide)
    rw [Nat.zero_mul, Nat.add_zero] at this
    exact this
  have hXN : ¬ F6 xb := fun hf => by
    have h1 := HT6.out.tl.lt _ hf
    have h2 := (own_lt o7 xb (by rw [hvx, hxa]; rfl)).1
    omega
  have HAX := hide hAX
  have HXN := hide hXN
  subst hxa
  have kC := add_any w7 t F6 sB 3 6 1 1 2 HT7.out.tl wf_B ⟨by decide, by decide, by decide, by decide, by decide, by decide⟩ (by decide) (by decide)
  rw [add_C] at kC
  have c0 := HR4.out.x.cell 0 _ rfl
  have c1 := HR4.out.x.cell 1 _ rfl
  have c2 := HR4.out.x.cell 2 _ rfl
  have c3 := HR4.out.x.cell 3 _ rfl
  have c4 := HR4.out.x.cell 4 _ rfl
  have hxl : ([(((0, 10, 0), 0, 1), 0, 8)] : List Pc).length = 1 := rfl
  rw [hxl] at hvx hxc1
  unfold maxLen at hxc2
  clear kL sy o7 b7 hxc3 hxat hAX hXN hxl
  subst hvx
  go_wp2_with fail
  refine kC.mono ?_
  rintro ev w8 ⟨rfl, F8, k8⟩
  have HT8 := hide (HT7.out.step k8)
  have HS2 := hide (HR2.out.step k8)
  have HS4 := hide (HR4.out.step k8)
  have HAX8 := hide (HAX.out.fr k8.fr HXN.out)
  have kL := lookup_any w8 t F8 sC 0 8 HT8.out.tl wf_C (by decide) (by decide)
  clear kC k8 c0 c1 c2 c3 c4
  go_wp2_with fail
  refine kL.mono ?_
  rintro ev w9 ⟨vy, rfl, out, sy, o9, b9⟩
  obtain rfl := say_C sy
  rw [lk_C] at o9
  have HT9 := hide (HT8.out.up b9)
  have hx9 := (RdsK.of_own o9).pieces
  obtain ⟨ya, yc, hvy, hyc1, hyc2, hyc3⟩ := hx9
  obtain ⟨yb, yo, hya, hyat⟩ := hyc3 (by decide)
  have p2 := hyat 2 (by decide)
  have p3 := hyat 3 (by decide)
  simp only [List.getElem_cons_succ, List.getElem_cons_zero] at p2 p3
  have hyl : ([(((0, 10, 0), 0, 1), 0, 3), (((3, 6, 1), 0, 2), 3, 6), (((3, 6, 1), 1, 2), 3, 6), (((0, 10, 0), 0, 1), 6, 8)] : List Pc).length = 4 := rfl
  rw [hyl] at hvy hyc1
  unfold maxLen at hyc2
  have pX := HAX8.out.up b9
  have q2 := (HS2.out.up b9).x
  have q4 := (HS4.out.up b9).x
  subst hya
  subst hvy
  have x0 := fun nq os => gro_cell pX.g.c0 nq os
  have x1 := fun nq os => gro_cell pX.g.c1 nq os
  have x2 := fun nq os => gro_cell pX.g.c2 nq os
  have x3 := fun nq os => gro_cell pX.g.c3 nq os
  have x4 := fun nq os => gro_cell pX.g.c4 nq os
  have x5 := fun nq os => gro_cell pX.c5 nq os
  have x6 := fun nq os => gro_cell pX.c6 nq os
  have y0 := fun nq os => gro_cell p2.g.c0 nq os
  have y1 := fun nq os => gro_cell p2.g.c1 nq os
  have y2 := fun nq os => gro_cell p2.g.c2 nq os
  have y3 := fun nq os => gro_cell p2.g.c3 nq os
  have y4 := fun nq os => gro_cell p2.g.c4 nq os
  have y5 := fun nq os => gro_cell p2.c5 nq os
  have y6 := fun nq os => gro_cell p2.c6 nq os
  have u5 := fun nq os => gro_cell p3.c5 nq os
  have u6 := fun nq os => gro_cell p3.c6 nq os
  have a0 := fun nq os => gro_cell (q2.cell 0 _ rfl) nq os
  have a1 := fun nq os => gro_cell (q2.cell 1 _ rfl) nq os
  have a2 := fun nq os => gro_cell (q2.cell 2 _ rfl) nq os
  have a3 := fun nq os => gro_cell (q2.cell 3 _ rfl) nq os
  have a4 := fun nq os => gro_cell (q2.cell 4 _ rfl) nq os
  have d0 := fun nq os => gro_cell (q4.cell 0 _ rfl) nq os
  have d1 := fun nq os => gro_cell (q4.cell 1 _ rfl) nq os
  have d2 := fun nq os => gro_cell (q4.cell 2 _ rfl) nq os
  have d3 := fun nq os => gro_cell (q4.cell 3 _ rfl) nq os
  have d4 := fun nq os => gro_cell (q4.cell 4 _ rfl) nq os
  simp only [Nat.reduceMul, Nat.add_assoc, Nat.reduceAdd] at x0 x1 x2 x3 x4 x5 x6 y0 y1 y2 y3 y4 y5 y6 u5 u6
  clear kL sy o9 b9 hyc3 hyat hyl p2 p3 pX q2 q4
  go_upto_region 12 with fail
  refine wp_region_quiet_grown (by assumption) (by kernel_rfl) ?_
  repeat (go_big_quiet_step (first | fail))
  refine wpQuiet_nil ?_
  intro V hw'
  obtain ⟨⟨nq, osq⟩, hw''⟩ := hw'
  have HV : Hid (Below w.heap.size w V) := by apply hide; rw [hw'']; exact HT9.out.bel.trans ((gro_below w9 nq osq).mono HT9.out.bel.size)
  clear hw'' x0 x1 x2 x3 x4 x5 x6 y0 y1 y2 y3 y4 y5 y6 u5 u6 a0 a1 a2 a3 a4 d0 d1 d2 d3 d4
  go_wp2_with fail
  go_ret
  exact ⟨rfl, HV.out⟩
end Go.Proofs.Ytgbmigfamefenaa

namespace Go.Proofs.Ytgbmigfamefenaa
open Go.RowKit Go.ChangeShapes Go.WideShapes
set_option linter.unusedVariables false

def In64 (x : Int) : Prop := -9223372036854775808 ≤ x ∧ x ≤ 9223372036854775807
section
variable {H : Type} {enc : TypeId × Value → H} {W : World} {fuel : Nat} {cs : List Value} {x : DataW H × List MemPlace}

theorem two {α : Type} {l : List α} (h : l.length = 2) : ∃ a b, l = [a, b] := by
  match l, h with
  | [a, b], _ => exact ⟨a, b, rfl⟩
theorem four {α : Type} {l : List α} (h : l.length = 4) : ∃ a b c d, l = [a, b, c, d] := by
  match l, h with
  | [a, b, c, d], _ => exact ⟨a, b, c, d, rfl⟩
theorem five {α : Type} {l : List α} (h : l.length = 5) : ∃ a b c d e, l = [a, b, c, d, e] := by
  match l, h with
  | [a, b, c, d, e], _ => exact ⟨a, b, c, d, e, rfl⟩
/-- Two numbers. -/
theorem pair_in {t : TypeId} {f0 f1 : Field} {ti : TypeId} (ht : Try.prog.underlying t = some (.struct #[f0, f1])) (hi : Try.prog.underlying ti = some (.int .i64)) (hc : Try.prog.cellsOf t = 2) (hci : Try.prog.cellsOf ti = 1)
    (h0 : f0.type = ti ∧ f0.offset = 0) (h1 : f1.type = ti ∧ f1.offset = 1) (h : DataW.trod enc Try.prog W 0 (fun _ => true) true fuel t cs = some x) : ∃ a : Int × Int, cs = [.int .i64 a.1, .int .i64 a.2] ∧ In64 a.1 ∧ In64 a.2 := by
  obtain ⟨xs, n, rfl, rfl, hl, hxs, hf⟩ := DataW.trod_struct ht h
  obtain ⟨c0, c1, rfl⟩ := two (hl.trans hc)
  have hx2 : xs.length = 2 := hxs
  obtain ⟨x0, x1, rfl⟩ := two hx2
  have k0 : DataW.trod enc Try.prog W 0 (fun _ => true) true n f0.type (([c0, c1].drop f0.offset).take (Try.prog.cellsOf f0.type)) = some x0 := hf 0 _ rfl
  have k1 : DataW.trod enc Try.prog W 0 (fun _ => true) true n f1.type (([c0, c1].drop f1.offset).take (Try.prog.cellsOf f1.type)) = some x1 := hf 1 _ rfl
  rw [h0.1, h0.2, hci] at k0
  rw [h1.1, h1.2, hci] at k1
  have k0 : DataW.trod enc Try.prog W 0 (fun _ => true) true n ti [c0] = some x0 := k0
  have k1 : DataW.trod enc Try.prog W 0 (fun _ => true) true n ti [c1] = some x1 := k1
  obtain ⟨a, ha, _, wa⟩ := DataW.trod_int hi k0
  obtain ⟨b, hb, _, wb⟩ := DataW.trod_int hi k1
  simp only [List.cons.injEq, and_true] at ha hb
  subst ha hb
  exact ⟨(a, b), rfl, (by have := bounds_i64 wa; unfold In64; simp only; omega), (by have := bounds_i64 wb; unfold In64; simp only; omega)⟩
/-- A segment. -/
theorem seg_in {t : TypeId} {f0 f1 f2 f3 g0 g1 : Field} {ts ti tj : TypeId} (ht : Try.prog.underlying t = some (.struct #[f0, f1, f2, f3])) (hts : Try.prog.underlying ts = some (.struct #[g0, g1])) (hi : Try.prog.underlying ti = some (.int .i64)) (hj : Try.prog.underlying tj = some (.int .i64)) (hc : Try.prog.cellsOf t = 5) (hcs : Try.prog.cellsOf ts = 2) (hci : Try.prog.cellsOf ti = 1) (hcj : Try.prog.cellsOf tj = 1)
    (h0 : f0.type = ts ∧ f0.offset = 0) (h1 : f1.type = ti ∧ f1.offset = 2) (h2 : f2.type = ti ∧ f2.offset = 3) (h3 : f3.type = ti ∧ f3.offset = 4) (i0 : g0.type = tj ∧ g0.offset = 0) (i1 : g1.type = tj ∧ g1.offset = 1)
    (h : DataW.trod enc Try.prog W 0 (fun _ => true) true fuel t cs = some x) : ∃ g : Sg, cs = sgc g ∧ B5 g := by
  obtain ⟨xs, n, rfl, rfl, hl, hxs, hf⟩ := DataW.trod_struct ht h
  obtain ⟨c0, c1, c2, c3, c4, rfl⟩ := five (hl.trans hc)
  have hx4 : xs.length = 4 := hxs
  obtain ⟨x0, x1, x2, x3, rfl⟩ := four hx4
  have k0 : DataW.trod enc Try.prog W 0 (fun _ => true) true n f0.type (([c0, c1, c2, c3, c4].drop f0.offset).take (Try.prog.cellsOf f0.type)) = some x0 := hf 0 _ rfl
  have k1 : DataW.trod enc Try.prog W 0 (fun _ => true) true n f1.type (([c0, c1, c2, c3, c4].drop f1.offset).take (Try.prog.cellsOf f1.type)) = some x1 := hf 1 _ rfl
  have k2 : DataW.trod enc Try.prog W 0 (fun _ => true) true n f2.type (([c0, c1, c2, c3, c4].drop f2.offset).take (Try.prog.cellsOf f2.type)) = some x2 := hf 2 _ rfl
  have k3 : DataW.trod enc Try.prog W 0 (fun _ => true) true n f3.type (([c0, c1, c2, c3, c4].drop f3.offset).take (Try.prog.cellsOf f3.type)) = some x3 := hf 3 _ rfl
  rw [h0.1, h0.2, hcs] at k0
  rw [h1.1, h1.2, hci] at k1
  rw [h2.1, h2.2, hci] at k2
  rw [h3.1, h3.2, hci] at k3
  have k0 : DataW.trod enc Try.prog W 0 (fun _ => true) true n ts [c0, c1] = some x0 := k0
  have k1 : DataW.trod enc Try.prog W 0 (fun _ => true) true n ti [c2] = some x1 := k1
  have k2 : DataW.trod enc Try.prog W 0 (fun _ => true) true n ti [c3] = some x2 := k2
  have k3 : DataW.trod enc Try.prog W 0 (fun _ => true) true n ti [c4] = some x3 := k3
  obtain ⟨a, ha, ba1, ba2⟩ := pair_in hts hj hcs hcj i0 i1 k0
  obtain ⟨v, hv, _, wv⟩ := DataW.trod_int hi k1
  obtain ⟨p, hp, _, wp⟩ := DataW.trod_int hi k2
  obtain ⟨c, hcc, _, wc⟩ := DataW.trod_int hi k3
  simp only [List.cons.injEq, and_true] at ha hv hp hcc
  obtain ⟨rfl, rfl⟩ := ha
  subst hv hp hcc
  unfold In64 at ba1 ba2
  have e1 := bounds_i64 wv
  have e2 := bounds_i64 wp
  have e3 := bounds_i64 wc
  exact ⟨((a.1, a.2, v), p, c), rfl, ⟨⟨ba1.1, ba1.2, ba2.1, ba2.2, e1.1, e1.2⟩, e2.1, e2.2, e3.1, e3.2⟩⟩
/-- What the elements of a slice read as, one by one. -/
theorem pick_all {α : Type} (Q : Nat → α → Prop) : ∀ (n : Nat), (∀ i, i < n → ∃ a, Q i a) → ∃ l : List α, l.length = n ∧ ∀ i (hi : i < l.length), Q i l[i]
  | 0, _ => ⟨[], rfl, fun i hi => by simp at hi⟩
  | n + 1, h => by
    obtain ⟨l, hl, hq⟩ := pick_all Q n fun i hi => h i (by omega)
    obtain ⟨a, ha⟩ := h n (by omega)
    refine ⟨l ++ [a], by simp [hl], fun i hi => ?_⟩
    by_cases hin : i < l.length
    · rw [List.getElem_append_left hin]; exact hq i hin
    · have : i = n := by simp at hi; omega
      subst this
      rw [List.getElem_append_right (by omega)]
      simpa using ha
theorem add_add (a : Addr) (i j : Nat) : (a.add i).add j = a.add (i + j) := by
  by_cases hi : i = 0
  · subst hi; simp [Addr.add]
  · by_cases hj : j = 0
    · subst hj; simp [Addr.add]
    · simp [Addr.add, hi, hj, Nat.add_assoc]
/-- A slice of segments. -/
theorem segs_in (h : DataW.trod enc Try.prog W 0 (fun _ => true) true fuel 22 cs = some x) (hw : ∀ n ∈ x.1.weights Try.prog 22, n ≤ reachBytes) :
    ∃ v l, cs = [v] ∧ Sgr W v l ∧ (∀ g ∈ l, B5 g) ∧ l.length * 40 ≤ 140737488351232 := by
  rcases DataW.trod_slice Try.underlying22 h with ⟨rfl, _⟩ | ⟨a, len, cap, elems, rest, n, rfl, rfl, rfl, _, hl, hm, hlen, hel, _, _⟩
  · exact ⟨_, [], rfl, ⟨none, 0, rfl, Nat.le_refl _, Nat.zero_le _, fun h => by simp at h⟩, (fun _ h => by cases h), by simp⟩
  · have e4 : Try.prog.cellsOf 32 = 5 := by kernel_rfl
    have e64 : Try.prog.bytesOf 32 = 40 := by kernel_rfl
    rw [e4] at hel
    obtain ⟨l, hll, hq⟩ := pick_all (fun i (e : Sg) => B5 e ∧ ∀ c v, (sgc e)[c]? = some v → W.cell? (a.add (i * 5 + c)) = some v) len fun i hi => by
      have hE := hel i hi
      have hi' : i < elems.length := by omega
      rw [List.getElem?_eq_getElem hi', Option.bind_eq_some_iff] at hE
      obtain ⟨c1, hc1, hy⟩ := hE
      obtain ⟨e, he, hok⟩ := seg_in Try.underlying32 Try.underlying24 Try.underlying3 Try.underlying2 (by kernel_rfl) (by kernel_rfl) (by kernel_rfl) (by kernel_rfl) ⟨rfl, rfl⟩ ⟨rfl, rfl⟩ ⟨rfl, rfl⟩ ⟨rfl, rfl⟩ ⟨rfl, rfl⟩ ⟨rfl, rfl⟩ hy
      refine ⟨e, hok, fun c v hv => ?_⟩
      obtain ⟨_, _, hcell⟩ := World.cells?_some hc1
      rw [← add_add]
      have hc : c < 5 := by have := (List.getElem?_eq_some_iff.1 hv).1; simpa [sgc] using this
      rw [hcell c hc, he]
      exact hv
    have hbytes := hw ((elems.length + rest.length) * 40) (by simp [DataW.weights, Try.underlying22, e64])
    have hrk : RdsK 5 W (.slice (some a) len cap) l.length (sgcs l) := by
      refine ⟨some a, cap, by rw [hll], sgcs_length l, by omega, hm, (fun h => by cases h), ?_⟩
      rintro ad ⟨rfl⟩ j u hj
      have hj5 : j < l.length * 5 := by have := (List.getElem?_eq_some_iff.1 hj).1; rwa [sgcs_length] at this
      have e := flat_get sgc 5 sgc_len l (j / 5) (j % 5) (by omega) (by omega)
      rw [show j / 5 * 5 + j % 5 = j by omega] at e
      have hj' : (l.flatMap sgc)[j]? = some u := hj
      rw [hj'] at e
      have := (hq (j / 5) (by omega)).2 (j % 5) u e.symm
      rwa [show j / 5 * 5 + j % 5 = j by omega] at this
    refine ⟨_, l, rfl, ⟨hrk.segs⟩, fun e he => ?_, ?_⟩
    · obtain ⟨i, hi, rfl⟩ := List.getElem_of_mem he
      exact (hq i hi).1
    · simp only [reachBytes] at hbytes
      omega
end
end Go.Proofs.Ytgbmigfamefenaa

namespace Go.Proofs.Ytgbmigfamefenaa
open Go.Shelf Go.RowKit Go.Maps Go.Sort
set_option linter.unusedVariables false

theorem any_take {α : Type} {l : List α} {P : α → Bool} {i : Nat} (hi : i < l.length) : (l.take (i + 1)).any P = ((l.take i).any P || P l[i]) := by
  rw [List.take_succ_eq_append_getElem hi, List.any_append]
  simp
theorem countP_take {α : Type} {l : List α} {P : α → Bool} {i : Nat} (hi : i < l.length) : (l.take (i + 1)).countP P = (l.take i).countP P + if P l[i] then 1 else 0 := by
  rw [List.take_succ_eq_append_getElem hi, List.countP_append]
  simp [List.countP_cons]
/-- A row of pieces that may be read. -/
structure Pgr (w : World) (v : Value) (l : List Pc) : Prop where
  ex : ∃ a c, v = .slice a l.length c ∧ l.length ≤ c ∧ c ≤ maxLen ∧ (0 < l.length → ∃ b o, a = some ⟨b, o, none⟩ ∧ ∀ i (hi : i < l.length), AtP w b (o + i * 7) l[i])
theorem Pgr.up {w w' : World} {v : Value} {l : List Pc} (h : Pgr w v l) (hb : Below w.heap.size w w') : Pgr w' v l := by
  obtain ⟨a, c, h1, h2, h3, h4⟩ := h.ex
  refine ⟨a, c, h1, h2, h3, fun hp => ?_⟩
  obtain ⟨b, o, e, hc⟩ := h4 hp
  exact ⟨b, o, e, fun i hi => (hc i hi).up hb⟩
theorem Pgr.of {w : World} {base e : Nat} {v : Value} {l : List Pc} (h : w.ownsRow base e 7 v l.length (pccs l)) : Pgr w v l := ⟨(RdsK.of_own h).pieces⟩
set_option maxRecDepth 100000 in
set_option maxHeartbeats 12800000 in
theorem all_walk (w : World) (v : Value) (raw : List Sg) (h : Sgr w v raw) (hB : ∀ g ∈ raw, B5 g) (hb : raw.length * 40 ≤ 140737488351232) (T0 : Int) (hT : In64 T0) :
    Calls Try.prog 4 #[v, .int .i64 T0] w fun e w' => e = .returned (.bool true) ∧ Below w.heap.size w w' := by
  have mixed : Try.prog.follows .mixedOrders = true := by kernel_rfl
  have kW := awake_any w
  have HR := hide h
  have HB5 := hide hB
  have kAb := fun w' => abs_any w' T0 hT.1 hT.2
  have hab := absN_lt hT.1 hT.2
  obtain ⟨A, hA⟩ : ∃ A, A = absN T0 := ⟨_, rfl⟩
  rw [← hA] at kAb hab
  obtain ⟨T, hTe⟩ : ∃ T, T = (A : Int) % 22 := ⟨_, rfl⟩
  have hT0 : 0 ≤ T ∧ T < 22 := by omega
  clear h hB hb hA hT
  go_enter Try.func4, Try.ntmps4
  go_wp2_with fail
  refine kW.mono ?_
  rintro ev w1 ⟨rfl, b1⟩
  have HB1 := hide b1
  have kM := made_any w1 v raw 40 (HR.out.up b1) HB5.out (Nat.le_refl _)
  clear kW b1
  go_wp2_with fail
  refine kM.mono ?_
  rintro ev w2 ⟨t, F, s, vl, l, rfl, hmd, hll⟩
  have HMD := hide hmd
  have HB2 : Hid (Below w.heap.size w w2) := HB1.out.trans (hmd.bel.mono HB1.out.size)
  clear kM hmd
  go_wp2_with fail
  refine (kAb _).mono ?_
  rintro ev w' ⟨rfl, rfl⟩
  have hw1 : IntKind.i64.wrap (T + 1) = T + 1 := by rw [IntKind.wrap_i64]; omega
  have hw2 : wrap64 (T + 1) = T + 1 := by rw [← IntWalk.i64_left]; exact hw1
  have kL := lookup_any w' t F s T (T + 1) HMD.out.tl HMD.out.wf (by have := HMD.out.len.1; omega) (fun e he => by have := HMD.out.len.2 e he; omega)
  have HTE := hide hTe
  clear kAb
  go_upto_region 6 with fail
  rw [← HTE.out]
  clear hTe
  go_wp2_with fail
  refine kL.mono ?_
  rintro ev w3 ⟨vp, rfl, out, sy, o3, b3⟩
  obtain ⟨hs1, hs2⟩ := all_say HMD.out.wf HMD.out.pm sy
  obtain ⟨p, hp⟩ : ∃ p, p = lkF s (cutS T (T + 1) out) := ⟨_, rfl⟩
  rw [← hp] at o3 hs1 hs2
  have HM3 : Hid (Md w1 w3 t F s vl l) := HMD.out.below b3
  have HB3 : Hid (Below w.heap.size w w3) := HB2.out.trans (b3.mono HB2.out.size)
  have hpg := Pgr.of o3
  have hsg := Sgr.of HM3.out.own
  obtain ⟨la, lc, hvl, hl1, hl2, hl3⟩ := hsg.ex
  obtain ⟨pa, pc, hvp, hp1, hp2, hp3⟩ := hpg.ex
  have hpl : p.length ≤ 2100000 := by
    rw [hp]
    have := lkF_len (m := 40) (fun e he => by have := HMD.out.len.2 e he; omega) T (T + 1) out
    have h2 : (keysF (pC T (T + 1) s) s).length ≤ 40 := Nat.le_trans (keysF_len _ _) (by have := HMD.out.len.1; omega)
    have h3 : (lkF s (cutS T (T + 1) out)).length ≤ 2100000 := by
      rcases one_cut (cut_of HMD.out.wf sy) with q | ⟨u, q, _⟩
      · rw [q]; simp [lkF]
      · rw [q, lkF_one]
        unfold pcs
        rw [List.length_map]
        exact Nat.le_trans (sgsOf_len (m := 40) (fun e he => by have := HMD.out.len.2 e he; omega) _) (by omega)
    exact h3
  have HSG := hide hsg
  have HL3 := hide hl3
  have HP3 := hide hp3
  have HS1 := hide hs1
  have HS2 := hide hs2
  obtain ⟨n, hn⟩ : ∃ n, n = l.length := ⟨_, rfl⟩
  obtain ⟨m, hm⟩ : ∃ m, m = p.length := ⟨_, rfl⟩
  rw [← hn] at hvl hl1 hll
  rw [← hm] at hvp hp1 hpl
  have HN := hide hn
  have HM := hide hm
  unfold maxLen at hl2 hp2
  clear kL sy o3 b3 hpg hsg hl3 hp3 hs1 hs2 hp hn hm
  subst hvp
  subst hvl
  go_wp2_with fail
  go_loopg [9, 10] n (fun kx v9 v10 wr => ∃ (i : Nat), v10 = .int .i64 (i : Int) ∧ i ≤ n ∧ n - i ≤ kx ∧ v9 = .bool ((l.take i).any (hdB l T)) ∧ Hid (Grows w3 wr))
  case atStart => exact ⟨0, rfl, Nat.zero_le _, Nat.le_refl _, rfl, Grows.refl _⟩
  case round =>
    obtain ⟨i, rfl, hi, hkx, rfl, HG⟩ := hrel
    by_cases hlt : i < n
    · have hltz : (i : Int) < (n : Int) := by omega
      have hil : i < l.length := by have := HN.out; omega
      obtain ⟨lb, lo, rfl, hat⟩ := HL3.out (by omega)
      have ha := (hat i hil).up HG.out.below
      have htk := any_take (P := hdB l T) hil
      have hfw := HM3.out.few _ (List.getElem_mem hil)
      obtain ⟨g, hg⟩ : ∃ g, g = l[i] := ⟨_, rfl⟩
      rw [← hg] at ha htk hfw
      have kH := whole_any wr (.slice (some ⟨lb, lo, none⟩) l.length lc) l g (by have := HSG.out.up HG.out.below; rw [HN.out] at this; exact this) (by have := HN.out; omega) (by have := hfw.co; omega)
      rw [← HN.out] at kH
      obtain ⟨b0, hb0⟩ : ∃ b, b = (l.take i).any (hdB l T) := ⟨_, rfl⟩
      rw [← hb0] at htk ⊢
      obtain ⟨q, hq⟩ : ∃ q, q = whB l g := ⟨_, rfl⟩
      unfold hdB at htk
      rw [← hq] at kH htk
      obtain ⟨⟨g1, g2, g3⟩, g4, g5⟩ := g
      have d0 := ha.c0
      have d1 := ha.c1
      have d2 := ha.c2
      have d3 := ha.c3
      have d4 := ha.c4
      simp only at d0 d1 d2 d3 d4 htk kH
      have HTK := hide htk
      have HW1 : Hid (wrap64 ((i : Int) + 1) = (i : Int) + 1) := by apply hide; rw [← IntWalk.i64_left, IntKind.wrap_i64]; omega
      clear ha hg hb0 hq htk hfw hat
      have hsplit : b0 = true ∨ (b0 = false ∧ (¬ g1 ≤ T ∨ (g1 ≤ T ∧ ¬ T < g2) ∨ (g1 ≤ T ∧ T < g2))) := by
        cases b0
        · right
          refine ⟨rfl, ?_⟩
          omega
        · left; rfl
      rcases hsplit with rfl | ⟨rfl, h1 | ⟨h1, h2⟩ | ⟨h1, h2⟩⟩
      · go_wp2_with fail
        go_roundg (n - (i + 1))
        case measure => omega
        case rel => exact ⟨i + 1, by first | (rw [HW1.out]; rfl) | rfl, hlt, Nat.le_refl _, by unfold hdB; rw [HTK.out]; simp, HG⟩
      · go_wp2_with fail
        go_roundg (n - (i + 1))
        case measure => omega
        case rel => exact ⟨i + 1, by first | (rw [HW1.out]; rfl) | rfl, hlt, Nat.le_refl _, by unfold hdB; rw [HTK.out, decide_eq_false (show ¬ g1 ≤ T by omega)]; rfl, HG⟩
      · go_wp2_with fail
        go_roundg (n - (i + 1))
        case measure => omega
        case rel => exact ⟨i + 1, by first | (rw [HW1.out]; rfl) | rfl, hlt, Nat.le_refl _, by unfold hdB; rw [HTK.out, decide_eq_true (show g1 ≤ T by omega), decide_eq_false (show ¬ T < g2 by omega)]; rfl, HG⟩
      · go_wp2_with fail
        refine kH.mono ?_
        rintro ev w4 ⟨rfl, g4'⟩
        have HG4 : Hid (Grows w3 w4) := HG.out.trans g4'
        clear g4' kH d0 d1 d2 d3 d4
        go_wp2_with fail
        go_roundg (n - (i + 1))
        case measure => omega
        case rel => exact ⟨i + 1, by first | (rw [HW1.out]; rfl) | rfl, hlt, Nat.le_refl _, by unfold hdB; rw [HTK.out, decide_eq_true (show g1 ≤ T by omega), decide_eq_true (show T < g2 by omega)]; rfl, HG4⟩
    · have hltz : ¬ (i : Int) < (n : Int) := by omega
      have hfull : (l.take i).any (hdB l T) = decide (0 < m) := by rw [List.take_of_length_le (by have := HN.out; omega), HS1.out, HM.out]
      rw [hfull]
      clear hfull
      by_cases hm0 : 0 < m
      · have hmz : (0 : Int) < (m : Int) := by omega
        obtain ⟨pb, po, rfl, hpat⟩ := HP3.out (by have := HM.out; omega)
        have hp0 := hpat 0 (by have := HM.out; omega)
        rw [Nat.zero_mul, Nat.add_zero] at hp0
        have hcount := HS2.out p[0] (List.getElem?_eq_getElem (by have := HM.out; omega))
        obtain ⟨p0, hp0e⟩ : ∃ q, q = p[0]'(by have := HM.out; omega) := ⟨_, rfl⟩
        rw [← hp0e] at hp0 hcount
        have HCT := hide hcount
        have HP0 := hide hp0
        clear hp0e hp0 hcount hpat
        rw [decide_eq_true hm0]
        go_wp2_with fail
        go_loopg [11, 12] n (fun kx2 v11 v12 wq => ∃ (j : Nat), v12 = .int .i64 (j : Int) ∧ j ≤ n ∧ n - j ≤ kx2 ∧ v11 = .int .i64 ((l.take j).countP (fun g => decide (g.1 = p0.1.1)) : Nat) ∧ Hid (Grows w3 wq))
        case atStart => exact ⟨0, rfl, Nat.zero_le _, Nat.le_refl _, rfl, HG⟩
        case round =>
          rename World => wq
          obtain ⟨j, rfl, hj, hkx2, rfl, HGq⟩ := hrel
          by_cases hjl : j < n
          · have hjz : (j : Int) < (n : Int) := by omega
            have hjp : j < l.length := by have := HN.out; omega
            obtain ⟨lb, lo, rfl, hat⟩ := HL3.out (by omega)
            have ha := (hat j hjp).up HGq.out.below
            have hp0q := HP0.out.up HGq.out.below
            have htk := countP_take (P := fun g : Sg => decide (g.1 = p0.1.1)) hjp
            have hcl : (l.take j).countP (fun g => decide (g.1 = p0.1.1)) ≤ 40 := Nat.le_trans List.countP_le_length (by rw [List.length_take]; omega)
            obtain ⟨g, hg⟩ : ∃ g, g = l[j] := ⟨_, rfl⟩
            rw [← hg] at ha htk
            obtain ⟨cn, hcn⟩ : ∃ c, c = (l.take j).countP (fun g => decide (g.1 = p0.1.1)) := ⟨_, rfl⟩
            rw [← hcn] at htk hcl ⊢
            have kO : ∀ nq os, _ := fun nq os => grown_at (w := wq) (fun w' => one_any w' g p0.1) nq os
            obtain ⟨q, hq⟩ : ∃ q, q = decide (g.1 = p0.1.1) := ⟨_, rfl⟩
            rw [← hq] at kO htk
            have HTK := hide htk
            have z0 := fun nq os => gro_cell ha.c0 nq os
            have z1 := fun nq os => gro_cell ha.c1 nq os
            have z2 := fun nq os => gro_cell ha.c2 nq os
            have z3 := fun nq os => gro_cell ha.c3 nq os
            have z4 := fun nq os => gro_cell ha.c4 nq os
            have y0 := fun nq os => gro_cell hp0q.g.c0 nq os
            have y1 := fun nq os => gro_cell hp0q.g.c1 nq os
            have y2 := fun nq os => gro_cell hp0q.g.c2 nq os
            have y3 := fun nq os => gro_cell hp0q.g.c3 nq os
            have y4 := fun nq os => gro_cell hp0q.g.c4 nq os
            have HW1 : Hid (wrap64 ((j : Int) + 1) = (j : Int) + 1) := by apply hide; rw [← IntWalk.i64_left, IntKind.wrap_i64]; omega
            have HW2 : Hid (wrap64 ((cn : Int) + 1) = (cn : Int) + 1) := by apply hide; rw [← IntWalk.i64_left, IntKind.wrap_i64]; omega
            clear ha hg hcn hq htk hat hp0q hw2
            go_upto_region 18 with fail
            refine wp_region_quiet_grown (by assumption) (by kernel_rfl) ?_
            repeat (go_big_quiet_step (first | (go_at_call 14; with_reducible refine Calls.grown_of (kO _ _))))
            refine wpQuiet_nil ?_
            intro V hw'
            obtain ⟨⟨nq, osq⟩, hw''⟩ := hw'
            have HGV : Hid (Grows w3 V) := by apply hide; rw [hw'']; exact HGq.out.trans ⟨nq, osq, rfl⟩
            clear hw'' kO z0 z1 z2 z3 z4 y0 y1 y2 y3 y4
            cases q
            · go_wp2_with fail
              go_roundg (n - (j + 1))
              case measure => omega
              case rel => exact ⟨j + 1, by first | (rw [HW1.out]; rfl) | rfl, hjl, Nat.le_refl _, by rw [HTK.out]; rfl, HGV⟩
            · go_wp2_with fail
              go_roundg (n - (j + 1))
              case measure => omega
              case rel => exact ⟨j + 1, by first | (rw [HW1.out]; rfl) | rfl, hjl, Nat.le_refl _, by rw [HTK.out]; first | (rw [HW2.out]; rfl) | rfl, HGV⟩
          · have hjz : ¬ (j : Int) < (n : Int) := by omega
            have hct : (l.take j).countP (fun g => decide (g.1 = p0.1.1)) = m := by rw [List.take_of_length_le (by have := HN.out; omega), HCT.out, HM.out]
            rw [hct]
            clear hct
            go_wp2_with fail
            go_ret
            exact ⟨rfl, HB3.out.trans (HGq.out.below.mono HB3.out.size)⟩
      · have hm1 : m = 0 := by omega
        subst hm1
        rw [decide_eq_false (by omega)]
        go_wp2_with fail
        go_loopg [11, 12] n (fun kx2 v11 v12 wq => ∃ (j : Nat), v12 = .int .i64 (j : Int) ∧ j ≤ n ∧ n - j ≤ kx2 ∧ v11 = .int .i64 0 ∧ Hid (Grows w3 wq))
        case atStart => exact ⟨0, rfl, Nat.zero_le _, Nat.le_refl _, rfl, HG⟩
        case round =>
          rename World => wq
          obtain ⟨j, rfl, hj, hkx2, rfl, HGq⟩ := hrel
          by_cases hjl : j < n
          · have hjz : (j : Int) < (n : Int) := by omega
            have HW1 : Hid (wrap64 ((j : Int) + 1) = (j : Int) + 1) := by apply hide; rw [← IntWalk.i64_left, IntKind.wrap_i64]; omega
            clear hw2
            go_upto_region 18 with fail
            refine wp_region_quiet_grown (by assumption) (by kernel_rfl) ?_
            repeat (go_big_quiet_step (first | fail))
            refine wpQuiet_nil ?_
            intro V hw'
            obtain ⟨⟨nq, osq⟩, hw''⟩ := hw'
            have HGV : Hid (Grows w3 V) := by apply hide; rw [hw'']; exact HGq.out.trans ⟨nq, osq, rfl⟩
            clear hw''
            go_wp2_with fail
            go_roundg (n - (j + 1))
            case measure => omega
            case rel => exact ⟨j + 1, by first | (rw [HW1.out]; rfl) | rfl, hjl, Nat.le_refl _, rfl, HGV⟩
          · have hjz : ¬ (j : Int) < (n : Int) := by omega
            go_wp2_with fail
            go_ret
            exact ⟨rfl, HB3.out.trans (HGq.out.below.mono HB3.out.size)⟩
end Go.Proofs.Ytgbmigfamefenaa

namespace Go.Proofs.Ytgbmigfamefenaa
open Go.Shelf Go.RowKit Go.Maps Go.Sort
set_option linter.unusedVariables false

/-- A piece, a stretch, holds a time. -/
def inP (x : Int) (p : Pc) : Bool := decide (p.2.1 ≤ x) && decide (x < p.2.2)
def inS (x : Int) (t : S3) : Bool := decide (t.2.1 ≤ x) && decide (x < t.2.2)
theorem inS_iff {x : Int} {t : S3} : inS x t = true ↔ t.2.1 ≤ x ∧ x < t.2.2 := by
  unfold inS
  rw [Bool.and_eq_true, decide_eq_true_eq, decide_eq_true_eq]
theorem lkF_filter (s : List Es) (x : Int) (o : List S3) : (lkF s o).filter (inP x) = lkF s (o.filter (inS x)) := by
  unfold lkF
  induction o with
  | nil => rfl
  | cons t o ih =>
    rw [List.flatMap_cons, List.filter_append, ih]
    by_cases h : inS x t = true
    · rw [List.filter_cons_of_pos h, List.flatMap_cons]
      congr 1
      rw [List.filter_eq_self]
      intro p hp
      unfold pcs at hp
      obtain ⟨g, _, rfl⟩ := List.mem_map.1 hp
      exact h
    · rw [List.filter_cons_of_neg h]
      have : (pcs s t).filter (inP x) = [] := by
        rw [List.filter_eq_nil_iff]
        intro p hp
        unfold pcs at hp
        obtain ⟨g, _, rfl⟩ := List.mem_map.1 hp
        exact h
      rw [this]
      rfl
theorem filter_cut {C : List K3} {o : List S3} {a b x : Int} (h : Cut C o a b) (h1 : a ≤ x) (h2 : x < b) : (o.filter (inS x) = [] ∧ ¬ ∃ k ∈ C, Hl k x) ∨ ∃ t, o.filter (inS x) = [t] ∧ Bst C x t.1 := by
  have hm : ∀ t ∈ o.filter (inS x), t ∈ o ∧ t.2.1 ≤ x ∧ x < t.2.2 := fun t ht => by
    have := List.mem_filter.1 ht
    exact ⟨this.1, inS_iff.1 this.2⟩
  have hch : (o.filter (inS x)).Pairwise fun a b => a.2.2 ≤ b.2.1 := List.Pairwise.sublist List.filter_sublist h.ch
  match hf : o.filter (inS x), hm, hch with
  | [], hm, _ =>
    left
    refine ⟨rfl, fun hk => ?_⟩
    obtain ⟨t, ht, q1, q2⟩ := h.all x h1 h2 hk
    have : t ∈ o.filter (inS x) := List.mem_filter.2 ⟨ht, inS_iff.2 ⟨q1, q2⟩⟩
    rw [hf] at this
    cases this
  | [t], hm, _ =>
    obtain ⟨q0, q1, q2⟩ := hm t (List.mem_cons_self ..)
    exact .inr ⟨t, rfl, h.is t q0 x q1 q2⟩
  | t :: u :: r, hm, hch =>
    exfalso
    obtain ⟨_, q1, q2⟩ := hm t (List.mem_cons_self ..)
    obtain ⟨_, q3, q4⟩ := hm u (List.mem_cons_of_mem _ (List.mem_cons_self ..))
    have := (List.pairwise_cons.1 hch).1 u (List.mem_cons_self ..)
    omega
theorem pcs_fst (s : List Es) (t : S3) : (pcs s t).map Prod.fst = sgsOf s t.1 := by
  unfold pcs
  rw [List.map_map]
  exact List.map_id _
theorem cut_say {s : List Es} (hs : Wf s) {a b x : Int} {out out' : List S3} (h : Say (keysF (pC a b s) s) out 1099511627776) (h' : Say (keysF (pC x (x + 1) s) s) out' 1099511627776) (h1 : a ≤ x) (h2 : x < b) :
    ((lkF s (cutS a b out)).filter (inP x)).map Prod.fst = (lkF s (cutS x (x + 1) out')).map Prod.fst := by
  have hc := cut_of hs h
  have hc' := cut_of hs h'
  rw [lkF_filter]
  rcases filter_cut hc h1 h2 with ⟨q, hno⟩ | ⟨t, q, hb⟩
  · rw [q]
    rcases one_cut hc' with r | ⟨u, r, _, _, hu⟩
    · rw [r]
    · exact absurd ⟨u.1, hu.mem, hu.hl⟩ hno
  · rw [q]
    rcases one_cut hc' with r | ⟨u, r, _, _, hu⟩
    · exfalso
      obtain ⟨v, hv, _⟩ := hc'.all x (Int.le_refl _) (by omega) ⟨t.1, hb.mem, hb.hl⟩
      rw [r] at hv
      cases hv
    · rw [r, lkF_one, lkF_one, pcs_fst, pcs_fst, hb.unique hu]
theorem chn_len : ∀ (o : List S3) (a b : Int), (∀ t ∈ o, t.2.1 < t.2.2) → Chn o → (∀ t ∈ o, a ≤ t.2.1 ∧ t.2.2 ≤ b) → (o.length : Int) ≤ max (b - a) 0
  | [], a, b, _, _, _ => by simp; omega
  | t :: o, a, b, h1, h2, h3 => by
    obtain ⟨c1, c2⟩ := List.pairwise_cons.1 h2
    have ih := chn_len o t.2.2 b (fun u hu => h1 u (List.mem_cons_of_mem _ hu)) c2 fun u hu => ⟨c1 u hu, (h3 u (List.mem_cons_of_mem _ hu)).2⟩
    have q1 := h1 t (List.mem_cons_self ..)
    have q2 := h3 t (List.mem_cons_self ..)
    rw [List.length_cons]
    omega
theorem lkF_lenO {s : List Es} {m : Nat} (h : ∀ e ∈ s, e.2.2.length ≤ m) (o : List S3) : (lkF s o).length ≤ o.length * m := by
  unfold lkF
  induction o with
  | nil => simp
  | cons t o ih =>
    rw [List.flatMap_cons, List.length_append, List.length_cons, Nat.succ_mul]
    have h1 : (pcs s t).length ≤ m := by
      unfold pcs
      rw [List.length_map]
      exact sgsOf_len h _
    omega
theorem filter_take {α : Type} {l : List α} {P : α → Bool} {i : Nat} (hi : i < l.length) : (l.take (i + 1)).filter P = (l.take i).filter P ++ if P l[i] then [l[i]] else [] := by
  rw [List.take_succ_eq_append_getElem hi, List.filter_append]
  congr 1
  by_cases h : P l[i] = true <;> simp [h]
/-- The i-th piece that holds the time is the next one that is told of the time alone. -/
theorem next_same {l : List Pc} {q : List Pc} {x : Int} (h : (l.filter (inP x)).map Prod.fst = q.map Prod.fst) {i : Nat} (hi : i < l.length) (hin : inP x l[i] = true) : ∃ hn : ((l.take i).filter (inP x)).length < q.length, q[((l.take i).filter (inP x)).length].1 = l[i].1 := by
  have e1 : l.filter (inP x) = (l.take i).filter (inP x) ++ l[i] :: ((l.drop (i + 1)).filter (inP x)) := by
    conv => lhs; rw [← List.take_append_drop i l, List.filter_append, List.drop_eq_getElem_cons hi, List.filter_cons_of_pos hin]
  rw [e1, List.map_append, List.map_cons] at h
  have hl := congrArg List.length h
  simp only [List.length_append, List.length_map, List.length_cons] at hl
  refine ⟨by omega, ?_⟩
  have h2 : (((l.take i).filter (inP x)).map Prod.fst ++ (l[i].1 :: ((l.drop (i + 1)).filter (inP x)).map Prod.fst))[((l.take i).filter (inP x)).length]? = (q.map Prod.fst)[((l.take i).filter (inP x)).length]? := by rw [h]
  rw [List.getElem?_append_right (by simp), List.length_map, Nat.sub_self, List.getElem?_cons_zero, List.getElem?_map, List.getElem?_eq_getElem (by omega)] at h2
  simpa using h2.symm
theorem next_same' {l : List Pc} {q : List Pc} {x : Int} (h : (l.filter (inP x)).map Prod.fst = q.map Prod.fst) {i c : Nat} (hi : i < l.length) (hc : c = ((l.take i).filter (inP x)).length) (hin : inP x l[i] = true) : ∃ hn : c < q.length, q[c].1 = l[i].1 := by
  subst hc
  exact next_same h hi hin
set_option maxRecDepth 100000 in
set_option maxHeartbeats 12800000 in
theorem cut_walk (w : World) (v : Value) (raw : List Sg) (h : Sgr w v raw) (hB : ∀ g ∈ raw, B5 g) (hb : raw.length * 40 ≤ 140737488351232) (f0 : Int) (hf : In64 f0) (l0 : Int) (hl0 : In64 l0) :
    Calls Try.prog 5 #[v, .int .i64 f0, .int .i64 l0] w fun e w' => e = .returned (.bool true) ∧ Below w.heap.size w w' := by
  have mixed : Try.prog.follows .mixedOrders = true := by kernel_rfl
  have kW := awake_any w
  have HR := hide h
  have HB5 := hide hB
  have kA1 := fun w' => abs_any w' f0 hf.1 hf.2
  have ha1 := absN_lt hf.1 hf.2
  have kA2 := fun w' => abs_any w' l0 hl0.1 hl0.2
  have ha2 := absN_lt hl0.1 hl0.2
  obtain ⟨A, hA⟩ : ∃ A, A = absN f0 := ⟨_, rfl⟩
  obtain ⟨B, hBe⟩ : ∃ B, B = absN l0 := ⟨_, rfl⟩
  rw [← hA] at kA1 ha1
  rw [← hBe] at kA2 ha2
  obtain ⟨L, hL⟩ : ∃ L : Nat, L = B % 24 := ⟨_, rfl⟩
  have hLi : (B : Int) % 24 = (L : Int) := by omega
  have hL24 : L < 24 := by omega
  obtain ⟨a, hae⟩ : ∃ a : Int, a = (A : Int) % 24 - 1 := ⟨_, rfl⟩
  have ha0 : -1 ≤ a ∧ a < 23 := by omega
  have hw0 : IntKind.i64.wrap ((A : Int) % 24 - 1) = (A : Int) % 24 - 1 := by rw [IntKind.wrap_i64]; omega
  have hw0' : wrap64 ((A : Int) % 24 - 1) = (A : Int) % 24 - 1 := by rw [← IntWalk.i64_left]; exact hw0
  have hw3 : IntKind.i64.wrap (a + (B : Int) % 24) = a + (B : Int) % 24 := by rw [IntKind.wrap_i64]; omega
  have hw3' : wrap64 (a + (B : Int) % 24) = a + (B : Int) % 24 := by rw [← IntWalk.i64_left]; exact hw3
  clear h hB hb hA hBe hf hl0
  go_enter Try.func5, Try.ntmps5
  go_wp2_with fail
  refine kW.mono ?_
  rintro ev w1 ⟨rfl, b1⟩
  have HB1 := hide b1
  have kM := made_any w1 v raw 40 (HR.out.up b1) HB5.out (Nat.le_refl _)
  clear kW b1
  go_wp2_with fail
  refine kM.mono ?_
  rintro ev w2 ⟨t, F, s, vl, l, rfl, hmd, hll⟩
  have HMD := hide hmd
  have HB2 : Hid (Below w.heap.size w w2) := HB1.out.trans (hmd.bel.mono HB1.out.size)
  clear kM hmd
  go_wp2_with fail
  refine (kA1 _).mono ?_
  rintro ev w' ⟨rfl, rfl⟩
  have HAE := hide hae
  have HLI := hide hLi
  clear kA1 hae hLi hL
  go_upto_region 6 with fail
  rw [← HAE.out]
  clear hw0 hw0'
  go_wp2_with fail
  refine (kA2 _).mono ?_
  rintro ev w'' ⟨rfl, rfl⟩
  clear kA2
  go_upto_region 7 with fail
  rw [HLI.out]
  have kL := lookup_any w'' t F s a (a + (L : Int)) HMD.out.tl HMD.out.wf (by have := HMD.out.len.1; omega) (fun e he => by have := HMD.out.len.2 e he; omega)
  go_wp2_with fail
  refine kL.mono ?_
  rintro ev w3 ⟨vp, rfl, out, sy, o3, b3⟩
  obtain ⟨p, hp⟩ : ∃ p, p = lkF s (cutS a (a + (L : Int)) out) := ⟨_, rfl⟩
  have hpl : p.length ≤ 2100000 := by
    rw [hp]
    have hc := cut_of HMD.out.wf sy
    have h1 := chn_len _ _ _ hc.ne hc.ch hc.wi
    have h2 := lkF_lenO (m := 40) (fun e he => by have := HMD.out.len.2 e he; omega) (cutS a (a + (L : Int)) out)
    omega
  rw [← hp] at o3
  have HM3 : Hid (Md w1 w3 t F s vl l) := HMD.out.below b3
  have HB3 : Hid (Below w.heap.size w w3) := HB2.out.trans (b3.mono HB2.out.size)
  have HSY := hide sy
  have HP := hide hp
  have hpg := Pgr.of o3
  obtain ⟨pa, pc, hvp, hp1, hp2, hp3⟩ := hpg.ex
  have HP3 := hide hp3
  obtain ⟨m, hm⟩ : ∃ m, m = p.length := ⟨_, rfl⟩
  rw [← hm] at hvp hp1 hpl
  have HM := hide hm
  unfold maxLen at hp2
  clear kL sy o3 b3 hpg hp3 hp hm
  subst hvp
  go_wp2_with fail
  go_loopg [13, 14, 15, 16] L (fun kx v13 _ _ _ wr => ∃ (i : Nat), v13 = .int .i64 (a + (i : Int)) ∧ i ≤ L ∧ L - i ≤ kx ∧ Hid (Below w3.heap.size w3 wr))
  case atStart => exact ⟨0, by simp, Nat.zero_le _, Nat.le_refl _, Below.refl _ _⟩
  case round =>
    obtain ⟨i, rfl, hi, hkx, HB⟩ := hrel
    obtain ⟨x, hx⟩ : ∃ x : Int, x = a + (i : Int) := ⟨_, rfl⟩
    rw [← hx]
    have hxb : -1 ≤ x ∧ x < 47 := by omega
    by_cases hlt : i < L
    · have hltz : x < a + (L : Int) := by omega
      have hax : a ≤ x := by omega
      have hw1 : IntKind.i64.wrap (x + 1) = x + 1 := by rw [IntKind.wrap_i64]; omega
      have hw2 : wrap64 (x + 1) = x + 1 := by rw [← IntWalk.i64_left]; exact hw1
      have hmr := HM3.out.below HB.out
      have kQ := lookup_any wr t F s x (x + 1) hmr.tl hmr.wf (by have := hmr.len.1; omega) (fun e he => by have := hmr.len.2 e he; omega)
      have HXE : Hid (a + ((i + 1 : Nat) : Int) = x + 1) := by apply hide; omega
      clear hx hmr
      go_wp2_with fail
      refine kQ.mono ?_
      rintro ev w4 ⟨vq, rfl, out2, sy2, o4, b4⟩
      have hsame := cut_say HM3.out.wf HSY.out sy2 hax hltz
      rw [← HP.out] at hsame
      obtain ⟨q, hq⟩ : ∃ q, q = lkF s (cutS x (x + 1) out2) := ⟨_, rfl⟩
      rw [← hq] at o4 hsame
      have HSM := hide hsame
      have HB4 : Hid (Below w3.heap.size w3 w4) := HB.out.trans (b4.mono HB.out.size)
      have hqg := Pgr.of o4
      obtain ⟨qa, qc, hvq, hq1, hq2, hq3⟩ := hqg.ex
      have HQ3 := hide hq3
      obtain ⟨k, hk⟩ : ∃ k, k = q.length := ⟨_, rfl⟩
      rw [← hk] at hvq hq1
      have HK := hide hk
      unfold maxLen at hq2
      clear kQ sy2 o4 b4 hsame hq hqg hq3 hk
      subst hvq
      go_wp2_with fail
      go_loopg [15, 16] m (fun kx2 v15 v16 wq => ∃ (j : Nat), v16 = .int .i64 (j : Int) ∧ j ≤ m ∧ m - j ≤ kx2 ∧ v15 = .int .i64 (((p.take j).filter (inP x)).length : Nat) ∧ Hid (Grows w4 wq))
      case atStart => exact ⟨0, rfl, Nat.zero_le _, Nat.le_refl _, rfl, Grows.refl _⟩
      case round =>
        rename World => wq
        obtain ⟨j, rfl, hj, hkx2, rfl, HG⟩ := hrel
        obtain ⟨cn, hcn⟩ : ∃ c, c = ((p.take j).filter (inP x)).length := ⟨_, rfl⟩
        have hcl : cn ≤ 2100000 := by rw [hcn]; refine Nat.le_trans (List.length_filter_le _ _) ?_; rw [List.length_take]; omega
        by_cases hjl : j < m
        · have hjz : (j : Int) < (m : Int) := by omega
          have hjp : j < p.length := by have := HM.out; omega
          obtain ⟨pb, po, rfl, hat⟩ := HP3.out (by omega)
          have ha := ((hat j hjp).up HB4.out).up HG.out.below
          have htk := filter_take (P := inP x) hjp
          have hnx := fun hh => next_same' HSM.out hjp hcn hh
          obtain ⟨z, hz⟩ : ∃ z, z = p[j] := ⟨_, rfl⟩
          rw [← hz] at ha htk hnx
          obtain ⟨⟨⟨z1, z2, z3⟩, z4, z5⟩, z6, z7⟩ := z
          have d5 := ha.c5
          have d6 := ha.c6
          have y0 := fun nq os => gro_cell ha.g.c0 nq os
          have y1 := fun nq os => gro_cell ha.g.c1 nq os
          have y2 := fun nq os => gro_cell ha.g.c2 nq os
          have y3 := fun nq os => gro_cell ha.g.c3 nq os
          have y4 := fun nq os => gro_cell ha.g.c4 nq os
          simp only at d5 d6 y0 y1 y2 y3 y4
          have HTK := hide htk
          have HCN := hide hcn
          rw [← hcn]
          have HNX := hide hnx
          have HW1 : Hid (wrap64 ((j : Int) + 1) = (j : Int) + 1) := by apply hide; rw [← IntWalk.i64_left, IntKind.wrap_i64]; omega
          clear ha hz htk hat hcn hnx hw1 hw2 hw3 hw3'
          by_cases hin : z6 ≤ x ∧ x < z7
          · obtain ⟨hin1, hin2⟩ := hin
            have hinB : inP x (((z1, z2, z3), z4, z5), z6, z7) = true := by unfold inP; rw [decide_eq_true hin1, decide_eq_true hin2]; rfl
            obtain ⟨hnk, hns⟩ := HNX.out hinB
            have hckz : (cn : Int) < (k : Int) := by have := HK.out; omega
            have hckn : ¬ (k : Int) ≤ (cn : Int) := by omega
            obtain ⟨qb, qo, rfl, hqt⟩ := HQ3.out (by omega)
            have hqn := (hqt cn hnk).up HG.out.below
            have u0 := fun nq os => gro_cell hqn.g.c0 nq os
            have u1 := fun nq os => gro_cell hqn.g.c1 nq os
            have u2 := fun nq os => gro_cell hqn.g.c2 nq os
            have u3 := fun nq os => gro_cell hqn.g.c3 nq os
            have u4 := fun nq os => gro_cell hqn.g.c4 nq os
            simp only [hns] at u0 u1 u2 u3 u4
            have HINB := hide hinB
            have HW2 : Hid (wrap64 ((cn : Int) + 1) = (cn : Int) + 1) := by apply hide; rw [← IntWalk.i64_left, IntKind.wrap_i64]; omega
            clear hqn hqt hinB hns hnk
            go_upto_region 17 with fail
            clear d5 d6
            refine wp_region_quiet_grown (by assumption) (by kernel_rfl) ?_
            repeat (go_big_quiet_step (first | fail))
            refine wpQuiet_nil ?_
            intro V hw'
            obtain ⟨⟨nq, osq⟩, hw''⟩ := hw'
            have HGV : Hid (Grows w4 V) := by apply hide; rw [hw'']; exact HG.out.trans ⟨nq, osq, rfl⟩
            clear hw'' y0 y1 y2 y3 y4 u0 u1 u2 u3 u4
            go_wp2_with fail
            go_roundg (m - (j + 1))
            case measure => omega
            case rel => exact ⟨j + 1, by first | (rw [HW1.out]; rfl) | rfl, hjl, Nat.le_refl _, by rw [HTK.out, HINB.out, if_pos rfl, List.length_append, ← HCN.out]; first | (rw [HW2.out]; rfl) | rfl, HGV⟩
          · have hinB : inP x (((z1, z2, z3), z4, z5), z6, z7) = false := by
              unfold inP
              rw [Bool.and_eq_false_iff, decide_eq_false_iff_not, decide_eq_false_iff_not]
              exact (by omega : ¬ z6 ≤ x ∨ ¬ x < z7)
            have HINB := hide hinB
            have hsplit : x < z6 ∨ (¬ x < z6 ∧ z7 ≤ x) := by omega
            clear y0 y1 y2 y3 y4 hinB hin
            rcases hsplit with h1 | ⟨h1, h2⟩
            · go_wp2_with fail
              go_roundg (m - (j + 1))
              case measure => omega
              case rel => exact ⟨j + 1, by first | (rw [HW1.out]; rfl) | rfl, hjl, Nat.le_refl _, by rw [HTK.out, HINB.out, if_neg (by simp), List.append_nil, ← HCN.out], HG⟩
            · go_wp2_with fail
              go_roundg (m - (j + 1))
              case measure => omega
              case rel => exact ⟨j + 1, by first | (rw [HW1.out]; rfl) | rfl, hjl, Nat.le_refl _, by rw [HTK.out, HINB.out, if_neg (by simp), List.append_nil, ← HCN.out], HG⟩
        · have hjz : ¬ (j : Int) < (m : Int) := by omega
          have hct : ((p.take j).filter (inP x)).length = k := by
            rw [List.take_of_length_le (by have := HM.out; omega), HK.out]
            have := congrArg List.length HSM.out
            simpa using this
          rw [hct]
          clear hct hcn hw1
          go_wp2_with fail
          go_roundg (L - (i + 1))
          case measure => omega
          case rel => exact ⟨i + 1, by rw [HXE.out], hlt, Nat.le_refl _, HB4.out.trans (HG.out.below.mono HB4.out.size)⟩
    · have hltz : ¬ x < a + (L : Int) := by omega
      go_wp2_with fail
      go_ret
      exact ⟨rfl, HB3.out.trans (HB.out.mono HB3.out.size)⟩
end Go.Proofs.Ytgbmigfamefenaa
