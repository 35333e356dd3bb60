/- A store, its disk and the reference's behind some calls. -/
import Derived.Test.YthegdhbmfojdaaaRegX
import Derived.Test.YthegdhbmfojdaaaOpI
import Derived.Test.YthegdhbmfojdaaaSam
import Derived.Shelf.SlSortCmp.QuietGrown
import Derived.BigQuiet
namespace Go.Proofs.Ythegdhbmfojdaaa
open Go.RowKit Go.Maps Go.Sort
set_option linter.unusedVariables false

theorem thr_pt {r : Nat × RSt} {f : RSt → Nat × RSt} {t : RSt} {k j : Nat} (h : r.2.part = t.part ∧ r.2.n ≤ t.n + k) (hf : ∀ u : RSt, (f u).2.part = u.part ∧ (f u).2.n ≤ u.n + j) : (thr r f).2.part = t.part ∧ (thr r f).2.n ≤ t.n + (k + j) := by
  unfold thr
  split
  · exact ⟨h.1, by omega⟩
  · have := hf r.2
    exact ⟨this.1.trans h.1, by omega⟩
theorem rwrB_pt (t : RSt) (x fl : Str) : (rwrB t x fl).2.part = t.part ∧ (rwrB t x fl).2.n ≤ t.n + 4 := by
  have h0 : (rw1 t x).2.part = t.part ∧ (rw1 t x).2.n ≤ t.n + 1 := by
    unfold rw1
    split
    · exact rrem_pt _ _
    · exact ⟨rfl, Nat.le_succ _⟩
  exact thr_pt (k := 3) (thr_pt (k := 2) (thr_pt (k := 1) h0 fun u => rapp_pt u _ _) fun u => rsyn_pt u _) fun u => rren_pt u _ _
theorem rputB_pt (t : RSt) (x l : Str) : (rputB t x l).2.part = t.part ∧ (rputB t x l).2.n ≤ t.n + 1004 := by
  have h := rwrB_pt t x (Wi.framed l)
  unfold rputB
  split
  · exact ⟨rfl, Nat.le_add_right _ _⟩
  · split
    · exact ⟨rfl, Nat.le_add_right _ _⟩
    · split
      · split
        · exact ⟨rfl, Nat.le_add_right _ _⟩
        · exact ⟨rfl, Nat.le_add_right _ _⟩
      · exact ⟨h.1, by omega⟩
theorem rdelB_pt (t : RSt) (x : Str) : (rdelB t x).2.part = t.part ∧ (rdelB t x).2.n ≤ t.n + 1004 := by
  have h := rrem_pt t (fB x)
  unfold rdelB
  split
  · exact ⟨rfl, Nat.le_add_right _ _⟩
  · exact ⟨h.1, by omega⟩
theorem rmR_pt (ts : List Str) : ∀ t : RSt, (rmR ts t).2.part = t.part ∧ (rmR ts t).2.n ≤ t.n + ts.length := by
  induction ts with
  | nil => exact fun t => ⟨rfl, Nat.le_refl _⟩
  | cons a tl ih =>
    intro t
    have h := rrem_pt t a
    unfold rmR
    split
    · exact ⟨h.1, by simp; omega⟩
    · have := ih (rrem t a).2
      exact ⟨this.1.trans h.1, by simp; omega⟩
theorem ropenB_pt (t : RSt) (hf : t.fs.length ≤ 1000) : (ropenB t).2.part = t.part ∧ (ropenB t).2.n ≤ t.n + 1004 := by
  unfold ropenB
  split
  · exact ⟨rfl, Nat.le_add_right _ _⟩
  · have h := rmR_pt (rls t [116, 46]) t
    have := rls_few (t := t) [116, 46]
    exact ⟨h.1, by omega⟩
theorem rapp_ptB (t : RSt) (a b : Str) : (rapp t a b).2.part = t.part ∧ (rapp t a b).2.n ≤ t.n + 1004 := by
  have := rapp_pt t a b
  exact ⟨this.1, by omega⟩
theorem nms_thn {r : Nat × St} {f : St → Nat × St} (h : NmS r.2) (hf : ∀ u : St, NmS u → NmS (f u).2) : NmS (thn r f).2 := by
  unfold thn
  split
  · exact h
  · exact hf _ h
theorem nms_putB {s : St} (h : NmS s) (x l : Str) : NmS (bput s x l).2 := by
  unfold bput
  split
  · exact h
  · split
    · exact h
    · split
      · exact h
      · exact h
      · have h0 : NmS (wr1 s x).2 := by
          unfold wr1
          split
          · exact nms_remove h _
          · exact nms_remove h _
        exact nms_thn (nms_thn (nms_thn h0 fun u hu => nms_append hu _ _) fun u hu => nms_sync hu _) fun u hu => nms_rename hu _ _
theorem nms_delB {s : St} (h : NmS s) (x : Str) : NmS (bdel s x).2 := by
  unfold bdel
  split
  · exact h
  · exact nms_remove h _
theorem nms_rmA (ts : List Str) : ∀ {s : St}, NmS s → NmS (rmA ts s).2 := by
  induction ts with
  | nil => exact fun h => h
  | cons a tl ih =>
    intro s h
    unfold rmA
    split
    · exact nms_remove h _
    · exact ih (nms_remove h _)
theorem nms_openB {s : St} (h : NmS s) : NmS (bopen s).2 := by
  unfold bopen
  split
  · exact h
  · exact nms_rmA _ h
/-- All behind m calls. -/
structure Qp (w0 w : World) (p d r m : Nat) (s : St) (t : RSt) : Prop where
  ex : ∃ F G : Nat → Prop, Dk w d F (m * 4194304) s ∧ Rd w r G (m * 4194304) t ∧ (∀ i, F i → ¬ G i) ∧ (∀ i, F i → w0.heap.size ≤ i) ∧ (∀ i, G i → w0.heap.size ≤ i) ∧ ¬ F p ∧ ¬ G p
  sr : Sr w p d
  bel : Below w0.heap.size w0 w
  rel : Rel s t
  n : t.n ≤ m * 1004
  part : t.part ≤ 9223372036854775807
  nm : NmS s
theorem Qp.below {w0 w w' : World} {p d r m : Nat} {s : St} {t : RSt} (h : Qp w0 w p d r m s t) (hb : Below w.heap.size w w') : Qp w0 w' p d r m s t := by
  obtain ⟨⟨F, G, h1, h2, h3, h4, h5, h8, h9⟩, sr, h6, h7, hn, hp, nm⟩ := h
  exact ⟨⟨F, G, h1.below hb, h2.below hb, h3, h4, h5, h8, h9⟩, sr.below hb, h6.trans (hb.mono h6.size), h7, hn, hp, nm⟩
theorem Qp.box {w0 w W : World} {p d r m : Nat} {s : St} {t : RSt} {ty : TypeId} {cs : Array Value} (h : Qp w0 w p d r m s t) (hW : W = w.alloc (.cells cs ty)) : Ps w0 W p d r (m * 4194304) s t w.heap.size ty cs := by
  obtain ⟨⟨F, G, h1, h2, h3, h4, h5, h8, h9⟩, sr, h6, -, -, -, -⟩ := h
  have hb : Below w.heap.size w W := by rw [hW]; exact (Below.refl _ _).alloc (Nat.le_refl _) _
  exact ⟨⟨F, G, h1.below hb, h2.below hb, h3, h4, h5, fun q => Nat.lt_irrefl _ (h1.ltR _ q), fun q => Nat.lt_irrefl _ (h2.lt _ q), h8, h9⟩, h6.trans (hb.mono h6.size), by rw [hW]; exact BxA.new _ _ _, sr.below hb⟩
theorem Ps.qp {w0 w : World} {p d r m N bx : Nat} {s : St} {t t0 : RSt} {ty : TypeId} {cs : Array Value} (h : Ps w0 w p d r N s t bx ty cs) (hN : N ≤ (m + 1) * 4194304) (rel : Rel s t) (hn : t.n ≤ t0.n + 1004) (h0 : t0.n ≤ m * 1004) (hp : t.part ≤ 9223372036854775807) (nm : NmS s) : Qp w0 w p d r (m + 1) s t := by
  obtain ⟨⟨F, G, h1, h2, h3, h4, h5, -, -, h8, h9⟩, h6, -, sr⟩ := h
  exact ⟨⟨F, G, h1.moreR hN, h2.more hN, h3, h4, h5, h8, h9⟩, sr, h6, rel, by omega, hp, nm⟩
structure Bth (w0 w : World) (p d r m : Nat) : Prop where
  ex : ∃ s t, Qp w0 w p d r (m + 1) s t
theorem ps_drew {w0 w : World} {p d r N bx : Nat} {s : St} {t : RSt} {ty : TypeId} {cs : Array Value} (h : Ps w0 w p d r N s t bx ty cs) : Ps w0 w.drew p d r N s t bx ty cs := h.below ((Below.refl _ _).drew)
end Go.Proofs.Ythegdhbmfojdaaa
