/- The laws' plays: a book and a disk behind some calls. -/
import Derived.Test.YtdcoeebpknipdaaNtF
namespace Go.Proofs.Ytdcoeebpknipdaa
open Go.RowKit Go.Maps Go.Sort

theorem Reads.fra {w w' : World} {F : Nat → Prop} {u : Value} {b : Str} {n : Nat} (h : Reads w u b) (hc : ∀ ad k c, u = .slice (some ad) k c → 0 < b.length → ad.block < n) (hF : ∀ i, F i → n ≤ i) (hf : Fr F w w') : Reads w' u b := by
  obtain ⟨ao, cap, rfl, h1, h2, h3, h4⟩ := h
  refine ⟨ao, cap, rfl, h1, h2, h3, fun ad ha j u hj => ?_⟩
  have hl : 0 < b.length := by have := (List.getElem?_eq_some_iff.1 hj).1; rw [bv_length] at this; omega
  have hc4 := h4 ad ha j u hj
  have hb : (ad.add j).block = ad.block := by simp only [Addr.add]; split <;> rfl
  have hlt := hc ad _ _ (by rw [ha]) hl
  rw [cell_blk (hf.block _ (World.block_lt_of_cell? _ _ hc4) (by rw [hb]; intro hF'; have := hF _ hF'; omega)), hc4]
theorem Reads.blk {w : World} {u : Value} {b : Str} (h : Reads w u b) : ∀ ad k c, u = .slice (some ad) k c → 0 < b.length → ad.block < w.heap.size := by
  obtain ⟨ao, cap, rfl, h1, h2, h3, h4⟩ := h
  intro ad k c e hl
  cases e
  have := World.block_lt_of_cell? _ _ (h4 ad rfl 0 _ (bv_get b 0 hl))
  have hb : (ad.add 0).block = ad.block := by simp only [Addr.add]; split <;> rfl
  omega
structure Pl (w0 w : World) (b d : Nat) (m : Nat) (E : List Fl) (s : St) : Prop where
  ex : ∃ G F : Nat → Prop, Bk w b G E ∧ Dk w d F (m * 1048576) s ∧ (∀ i, G i → ¬ F i) ∧ (∀ i, G i → w0.heap.size ≤ i) ∧ (∀ i, F i → w0.heap.size ≤ i)
  bel : Below w0.heap.size w0 w
  pm : E.Perm s.fs
  nms : Nms s.fs
  off : s.off = false
  set : s.set = false
  ops : s.ops ≤ m
theorem Pl.start {w0 w w1 : World} {b d : Nat} {G F : Nat → Prop} (hd : LD w0 w d F 0 st0) (hb : Bk w1 b G []) (hbe : Below w.heap.size w w1) (hG : ∀ i, G i → w.heap.size ≤ i) : Pl w0 w1 b d 0 [] st0 := by
  have hl := hd.dk.lt
  exact ⟨⟨G, F, hb, by simpa using hd.dk.below hbe, fun i h1 h2 => by have := hG i h1; have := hl i h2; omega, fun i h => Nat.le_trans hd.bel.size (hG i h), hd.F0⟩, hd.bel.trans (hbe.mono hd.bel.size), List.Perm.refl _, ⟨List.Pairwise.nil, fun _ h => by cases h⟩, rfl, rfl, Nat.zero_le _⟩
theorem hit_none {s : St} (h : s.set = false) : hit s = false := by unfold hit; rw [h]; rfl
theorem nS_keep {k : Nat} {nm t b : Str} {s : St} (hm : Nms s.fs) (ho : s.off = false) (hn : isNm nm = true) (ht : isNm t = true) (hnl : nm ∈ nmL) (htl : t ∈ nmL) (hh : (cnt k nm s && hit s) = false) : (nS k nm t b s).2.off = false ∧ (nS k nm t b s).2.set = s.set ∧ (nS k nm t b s).2.op = s.op ∧ (nS k nm t b s).2.ops ≤ s.ops + 1 ∧ Nms (nS k nm t b s).2.fs := by
  have hl : s.fs.length < 1000 := by have := hm.few; omega
  cases hc : cnt k nm s with
  | false =>
    rw [nS_none ho hn ht hc]
    exact ⟨ho, rfl, rfl, by show s.ops ≤ s.ops + 1; omega, hm⟩
  | true =>
    rw [hc, Bool.true_and] at hh
    rw [nS_miss ho hn ht hl hc hh]
    exact ⟨ho, rfl, rfl, Nat.le_refl _, nms_nF hm hnl htl⟩
theorem note_pl (w0 w : World) (b d m : Nat) (E : List Fl) (s : St) (o : OpM) (h : Pl w0 w b d m E s) (hm : m < 100) (ok : o.Ok w0) :
    Calls Try.prog 16 #[.pointer (some ⟨b, 0, none⟩), .pointer (some ⟨d, 0, none⟩), .agg #[.int .i64 o.K, .string ⟨o.A.toArray⟩, .string ⟨o.B.toArray⟩, o.u, .int .i64 o.n]] w fun e w' => e = .returned (.bool true) ∧ ∃ E' s', Pl w0 w' b d (m + 1) E' s' := by
  obtain ⟨⟨G, F, hB, hD, hap, hG, hF⟩, bel, pm, nms, off, set, ops⟩ := h
  have rl := ok.rl
  have hit0 := hit_none set
  have hch : ∀ k nm, (cnt k nm s && hit s) = false := fun k nm => by rw [hit0, Bool.and_false]
  refine (note_any w b d (m * 1048576) G F E s o.K o.n o.A o.B o.u o.bs ok.k1 ok.k2 ok.a ok.b hB hD hap (by omega) (fun w' hf => (ok.r.below bel).fra ok.r.blk (fun i hi => hi.elim (hG i) (hF i)) hf) (by omega) pm nms off).mono ?_
  rintro e w' ⟨rfl, E', ⟨⟨G', F', hB', hD', hap', hG', hF'⟩, fr⟩, hp⟩
  rw [hch]
  have hk := nS_keep (b := o.bs) nms off (nmK_facts o.A.length).1 (nmK_facts o.B.length).1 (nmK_facts o.A.length).2 (nmK_facts o.B.length).2 (hch (absN o.K % 6) _)
  have bw := bel.size
  refine ⟨rfl, E', _, ⟨G', F', hB', hD'.more (by omega), hap', fun i hi => (hG' i hi).elim (hG i) fun h => by omega, fun i hi => (hF' i hi).elim (hF i) fun h => by omega⟩, bel.trans (fr.below bw fun i hi => hi.elim (hG i) (hF i)), hp (hch _ _), hk.2.2.2.2, hk.1, hk.2.1.trans set, by have := hk.2.2.2.1; omega⟩
end Go.Proofs.Ytdcoeebpknipdaa
