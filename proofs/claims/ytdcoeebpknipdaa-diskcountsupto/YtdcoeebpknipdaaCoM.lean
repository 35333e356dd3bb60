/- Two disks with their books, side by side. -/
import Derived.Test.YtdcoeebpknipdaaKeM
namespace Go.Proofs.Ytdcoeebpknipdaa
open Go.RowKit Go.Maps Go.Sort

/-- A book and a disk, of the law's own, in the blocks G and F. -/
structure Pr (w0 w : World) (b d m : Nat) (E : List Fl) (s : St) (G F : Nat → Prop) : Prop where
  bk : Bk w b G E
  dk : Dk w d F (m * 1048576) s
  ap : ∀ i, G i → ¬ F i
  g0 : ∀ i, G i → w0.heap.size ≤ i
  f0 : ∀ i, F i → w0.heap.size ≤ i
  pm : E.Perm s.fs
  nms : Nms s.fs
  off : s.off = false
/-- What stays of another one's blocks. -/
theorem Pr.other {w0 w w' : World} {b d m : Nat} {E : List Fl} {s : St} {G F H : Nat → Prop} (h : Pr w0 w b d m E s G F) (hf : Fr H w w') (ha : ∀ i, G i ∨ F i → ¬ H i) : Pr w0 w' b d m E s G F :=
  ⟨h.bk.other hf fun i hi => ha i (.inl hi), h.dk.other hf fun i hi => ha i (.inr hi), h.ap, h.g0, h.f0, h.pm, h.nms, h.off⟩
theorem Pr.below {w0 w w' : World} {b d m : Nat} {E : List Fl} {s : St} {G F : Nat → Prop} (h : Pr w0 w b d m E s G F) (hf : Below w.heap.size w w') : Pr w0 w' b d m E s G F :=
  ⟨h.bk.below hf, h.dk.below hf, h.ap, h.g0, h.f0, h.pm, h.nms, h.off⟩
theorem Pr.more {w0 w : World} {b d m n : Nat} {E : List Fl} {s : St} {G F : Nat → Prop} (h : Pr w0 w b d m E s G F) (hm : m ≤ n) : Pr w0 w b d n E s G F :=
  ⟨h.bk, h.dk.more (Nat.mul_le_mul_right _ hm), h.ap, h.g0, h.f0, h.pm, h.nms, h.off⟩
/-- Behind a note at which the power doesn't go off. -/
structure Nx (w0 w w' : World) (b d m : Nat) (s : St) (G F : Nat → Prop) : Prop where
  ex : ∃ E' G' F', Pr w0 w' b d m E' s G' F' ∧ (∀ i, G' i ∨ F' i → (G i ∨ F i) ∨ w.heap.size ≤ i)
  fr : Fr (fun i => G i ∨ F i) w w'
/-- Behind one at which it does. -/
structure Ny (w0 w w' : World) (d m : Nat) (s : St) (G F : Nat → Prop) : Prop where
  ex : ∃ F', Dk w' d F' m s
  fr : Fr (fun i => G i ∨ F i) w w'
theorem note_pr (w0 w : World) (b d m : Nat) (E : List Fl) (s : St) (G F : Nat → Prop) (o : OpM) (h : Pr w0 w b d m E s G F) (bel : Below w0.heap.size w0 w) (hm : m < 100) (hop : s.ops ≤ m) (ok : o.Ok w0) (hh : (cnt (absN o.K % 6) (nmK o.A.length) s && hit s) = false) :
    Calls Try.prog 16 #[.pointer (some ⟨b, 0, none⟩), .pointer (some ⟨d, 0, none⟩), .agg #[.int .i64 o.K, .string ⟨o.A.toArray⟩, .string ⟨o.B.toArray⟩, o.u, .int .i64 o.n]] w fun e w' => e = .returned (.bool true) ∧ Nx w0 w w' b d (m + 1) (nS (absN o.K % 6) (nmK o.A.length) (nmK o.B.length) o.bs s).2 G F := by
  have rl := ok.rl
  refine (note_any w b d (m * 1048576) G F E s o.K o.n o.A o.B o.u o.bs ok.k1 ok.k2 ok.a ok.b h.bk h.dk h.ap (by omega) (fun w' hf => (ok.r.below bel).fra ok.r.blk (fun i hi => hi.elim (h.g0 i) (h.f0 i)) hf) (by omega) h.pm h.nms h.off).mono ?_
  rintro e w' ⟨rfl, E', ⟨⟨G', F', hB', hD', hap', hG', hF'⟩, fr⟩, hp⟩
  rw [hh]
  have hk := nS_keep (b := o.bs) h.nms h.off (nmK_facts o.A.length).1 (nmK_facts o.B.length).1 (nmK_facts o.A.length).2 (nmK_facts o.B.length).2 hh
  have bw := bel.size
  exact ⟨rfl, ⟨E', G', F', ⟨hB', hD'.more (by omega), hap', fun i hi => (hG' i hi).elim (h.g0 i) fun h => by omega, fun i hi => (hF' i hi).elim (h.f0 i) fun h => by omega, hp hh, hk.2.2.2.2, hk.1⟩, fun i hi => hi.elim (fun h => (hG' i h).imp .inl id) fun h => (hF' i h).imp .inr id⟩, fr⟩
theorem note_hit (w0 w : World) (b d m : Nat) (E : List Fl) (s : St) (G F : Nat → Prop) (o : OpM) (h : Pr w0 w b d m E s G F) (bel : Below w0.heap.size w0 w) (hm : m < 100) (hop : s.ops ≤ m) (ok : o.Ok w0) (hh : (cnt (absN o.K % 6) (nmK o.A.length) s && hit s) = true) :
    Calls Try.prog 16 #[.pointer (some ⟨b, 0, none⟩), .pointer (some ⟨d, 0, none⟩), .agg #[.int .i64 o.K, .string ⟨o.A.toArray⟩, .string ⟨o.B.toArray⟩, o.u, .int .i64 o.n]] w fun e w' => e = .returned (.bool false) ∧ ∃ s', Ny w0 w w' d ((m + 1) * 1048576) s' G F ∧ s'.off = true ∧ s'.ops = s.ops + 1 := by
  have rl := ok.rl
  refine (note_any w b d (m * 1048576) G F E s o.K o.n o.A o.B o.u o.bs ok.k1 ok.k2 ok.a ok.b h.bk h.dk h.ap (by omega) (fun w' hf => (ok.r.below bel).fra ok.r.blk (fun i hi => hi.elim (h.g0 i) (h.f0 i)) hf) (by omega) h.pm h.nms h.off).mono ?_
  rintro e w' ⟨rfl, E', ⟨⟨G', F', hB', hD', hap', hG', hF'⟩, fr⟩, hp⟩
  rw [hh]
  rw [Bool.and_eq_true] at hh
  have hl : s.fs.length < 1000 := by have := h.nms.few; omega
  have hk := nS_hit (b := o.bs) h.off (nmK_facts o.A.length).1 (nmK_facts o.B.length).1 hl hh.1 hh.2
  exact ⟨rfl, _, ⟨⟨F', hD'.more (by omega)⟩, fr⟩, hk.2.1, hk.2.2⟩
/-- What both disks do. -/
theorem both_miss {k : Nat} {nm t b : Str} {a c : St} (hf : a.fs = c.fs) (ho : a.ops = c.ops) (hm : Nms a.fs) (oa : a.off = false) (oc : c.off = false) (hn : isNm nm = true) (ht : isNm t = true) (ha : hit a = false) (hc : (cnt k nm c && hit c) = false) :
    (nS k nm t b a).2.fs = (nS k nm t b c).2.fs ∧ (nS k nm t b a).2.ops = (nS k nm t b c).2.ops ∧ (nS k nm t b a).2.set = a.set ∧ (nS k nm t b c).2.set = c.set ∧ (nS k nm t b c).2.op = c.op ∧ (nS k nm t b a).2.ops = a.ops + (if cnt k nm a then 1 else 0) := by
  have hl : a.fs.length < 1000 := by have := hm.few; omega
  have hl2 : c.fs.length < 1000 := by rw [← hf]; exact hl
  have hcc : cnt k nm a = cnt k nm c := by unfold cnt; rw [hf]
  cases hx : cnt k nm c with
  | false =>
    rw [nS_none oa hn ht (hcc.trans hx), nS_none oc hn ht hx]
    refine ⟨hf, ho, rfl, rfl, rfl, ?_⟩
    rw [hcc, hx]
    rfl
  | true =>
    rw [hx, Bool.true_and] at hc
    rw [nS_miss oa hn ht hl (hcc.trans hx) ha, nS_miss oc hn ht hl2 hx hc]
    refine ⟨by show nF k nm t b a.fs = nF k nm t b c.fs; rw [hf], by show a.ops + 1 = c.ops + 1; rw [ho], rfl, rfl, rfl, ?_⟩
    rw [hcc, hx]
    rfl
end Go.Proofs.Ytdcoeebpknipdaa
