/- What lies in memory while stretches walks. No walk stands here. -/
import Derived.Test.YtgbmigfamefenaaStM
namespace Go.Proofs.Ytgbmigfamefenaa
open Go.RowKit Go.Maps Go.Sort
set_option linter.unusedVariables false

structure SMem (w5 wr : World) (v3 v4 : Value) (bg : List K3) (out : List S3) : Prop where
  row : RowO wr w5.heap.size v4 bg
  out : OwS wr w5.heap.size v3 out
  sep : ∀ r, v3.ownBlock = some r → v4.ownBlock ≠ some r
  bel : Below w5.heap.size w5 wr
theorem RowO.lt {w : World} {base : Nat} {v : Value} {l : List K3} (h : RowO w base v l) (r : Nat) (hr : v.ownBlock = some r) : base ≤ r ∧ r < w.heap.size := by
  rcases h with ⟨rfl, _⟩ | ⟨g, o, cap, cur, h⟩
  · cases hr
  · rw [h.v] at hr
    have e : g = r := Option.some.inj hr
    rw [← e]
    exact ⟨h.bg, (Array.getElem?_eq_some_iff.1 h.blk).1⟩
theorem RowO.block {w w' : World} {base : Nat} {v : Value} {l : List K3} (h : RowO w base v l) (hb : ∀ r, v.ownBlock = some r → w'.heap[r]? = w.heap[r]?) : RowO w' base v l := by
  rcases h with h | ⟨g, o, cap, cur, h⟩
  · exact .inl h
  · refine .inr ⟨g, o, cap, cur, h.v, h.bg, ?_, h.le, h.fit, h.big, h.is⟩
    rw [hb g (by rw [h.v]; rfl)]
    exact h.blk
theorem SMem.below {w5 wr V : World} {v3 v4 : Value} {bg : List K3} {out : List S3} (h : SMem w5 wr v3 v4 bg out) (hb : Below wr.heap.size wr V) : SMem w5 V v3 v4 bg out :=
  ⟨h.row.below hb, owns_below1 h.out hb, h.sep, h.bel.trans (hb.mono h.bel.size)⟩
/-- The edge's box. -/
structure EBx (wr : World) (B : Nat) (e : Int) (v3 v4 : Value) : Prop where
  box : BxA wr B 2 #[.int .i64 e]
  n3 : v3.ownBlock ≠ some B
  n4 : v4.ownBlock ≠ some B
theorem EBx.below {wr V : World} {B : Nat} {e : Int} {v3 v4 : Value} (h : EBx wr B e v3 v4) (hb : Below wr.heap.size wr V) : EBx V B e v3 v4 :=
  ⟨by unfold BxA; rw [hb.block _ h.box.lt]; exact h.box, h.n3, h.n4⟩
theorem EBx.new {w5 wr V : World} {e : Int} {v3 v4 : Value} {bg : List K3} {out : List S3} (h : SMem w5 wr v3 v4 bg out) (hV : BxA V wr.heap.size 2 #[.int .i64 e]) : EBx V wr.heap.size e v3 v4 :=
  ⟨hV, fun q => by have := (own_lt h.out _ q).2; omega, fun q => by have := (h.row.lt _ q).2; omega⟩
theorem SMem.put {w5 wr w' : World} {v3 v4 v4' : Value} {bg l : List K3} {out : List S3} {ev : Ending} (h : SMem w5 wr v3 v4 bg out) (hi : Ins wr w' w5.heap.size l v4.ownBlock ev) (hr : RowO w' w5.heap.size v4' l) (hn : Nw wr v4.ownBlock v4') : SMem w5 w' v3 v4' l out := by
  refine ⟨hr, owns_block h.out fun r q => ?_, fun r q q2 => ?_, h.bel.trans hi.bel⟩
  · exact hi.gr.block r (own_lt h.out r q).2 fun q2 => h.sep r q q2.symm
  · rcases hn with q3 | ⟨g, q3, q4⟩
    · exact h.sep r q (by rw [← q3]; exact q2)
    · rw [q2] at q3
      have e : r = g := Option.some.inj q3
      have := (own_lt h.out r q).2
      omega
theorem EBx.put {wr w' : World} {B : Nat} {e : Int} {v3 v4 v4' : Value} (h : EBx wr B e v3 v4) (hg : wr.grownBy w' v4.ownBlock) (hn : Nw wr v4.ownBlock v4') : EBx w' B e v3 v4' := by
  refine ⟨by unfold BxA; rw [hg.block B h.box.lt (fun q => h.n4 q.symm)]; exact h.box, h.n3, fun q => ?_⟩
  rcases hn with q3 | ⟨g, q3, q4⟩
  · exact h.n4 (by rw [← q3]; exact q)
  · rw [q] at q3
    have e : B = g := Option.some.inj q3
    have := h.box.lt
    omega
theorem SMem.nil {w5 wr : World} {v3 v4 : Value} {bg : List K3} {out : List S3} (h : SMem w5 wr v3 v4 bg out) : SMem w5 wr v3 (.slice none 0 0) [] out :=
  ⟨.inl ⟨rfl, rfl⟩, h.out, (fun r _ q => by cases q), h.bel⟩
theorem SMem.cut {w5 wr : World} {v3 v4 : Value} {bg : List K3} {out : List S3} (h : SMem w5 wr v3 v4 bg out) (i : Nat) (hi : i < bg.length) :
    ∃ g o cap, v4 = .slice (some ⟨g, o, none⟩) bg.length cap ∧ bg.length ≤ cap ∧ cap ≤ maxLen ∧ SMem w5 wr v3 (.slice (some ⟨g, o + i * 3, none⟩) (bg.length - i) (cap - i)) (bg.drop i) out ∧
      (∀ e B, EBx wr B e v3 v4 → EBx wr B e v3 (.slice (some ⟨g, o + i * 3, none⟩) (bg.length - i) (cap - i))) ∧
      wr.cell? ⟨g, o + i * 3, none⟩ = some (.int .i64 bg[i].1) ∧ wr.cell? ⟨g, o + i * 3 + 1, none⟩ = some (.int .i64 bg[i].2.1) ∧ wr.cell? ⟨g, o + i * 3 + 2, none⟩ = some (.int .i64 bg[i].2.2) := by
  rcases h.row with ⟨_, q⟩ | ⟨g, o, cap, cur, hr⟩
  · rw [q] at hi; simp at hi
  · have hv := hr.v
    have hc := hr.cell
    refine ⟨g, o, cap, hv, hr.le, hr.big, ⟨.inr ⟨g, _, _, cur, hr.cut i hi⟩, h.out, fun r q q2 => h.sep r q (by rw [hv]; exact q2), h.bel⟩, fun e B hB => ⟨hB.box, hB.n3, fun q => hB.n4 (by rw [hv]; exact q)⟩, ?_, ?_, ?_⟩
    · have := hc (i * 3 + 0) _ (by rw [kcs_get bg i 0 hi (by omega)]; rfl)
      exact this
    · have := hc (i * 3 + 1) _ (by rw [kcs_get bg i 1 hi (by omega)]; rfl)
      exact this
    · have := hc (i * 3 + 2) _ (by rw [kcs_get bg i 2 hi (by omega)]; rfl)
      exact this
theorem SMem.go {w5 wr w' : World} {v3 v3' v4 : Value} {bg : List K3} {out out' : List S3} (h : SMem w5 wr v3 v4 bg out) (ho : OwS w' w5.heap.size v3' out') (hb : Below w5.heap.size wr w') (hg : wr.grownBy w' v3.ownBlock) (hn : Nw wr v3.ownBlock v3') : SMem w5 w' v3' v4 bg out' := by
  refine ⟨h.row.block fun r q => hg.block r (h.row.lt r q).2 fun q2 => h.sep r q2.symm q, ho, fun r q q2 => ?_, h.bel.trans hb⟩
  rcases hn with q3 | ⟨g, q3, q4⟩
  · exact h.sep r (by rw [← q3]; exact q) q2
  · rw [q] at q3
    have e : r = g := Option.some.inj q3
    have := (h.row.lt r q2).2
    omega
/-- Those that come. -/
structure Cm (w : World) (v : Value) (l : List K3) : Prop where
  ex : ∃ a cap, v = .slice a l.length cap ∧ l.length ≤ cap ∧ cap ≤ maxLen ∧ (0 < l.length → ∃ b o, a = some ⟨b, o, none⟩ ∧ ∀ i (hi : i < l.length), w.cell? ⟨b, o + i * 3, none⟩ = some (.int .i64 l[i].1) ∧ w.cell? ⟨b, o + i * 3 + 1, none⟩ = some (.int .i64 l[i].2.1) ∧ w.cell? ⟨b, o + i * 3 + 2, none⟩ = some (.int .i64 l[i].2.2))
theorem Cm.of {w : World} {v : Value} {l : List K3} (h : RdsK 3 w v l.length (kcs l)) : Cm w v l := by
  obtain ⟨a, cap, h1, h2, h3, h4⟩ := h.at3
  exact ⟨a, cap, h1, h2, h3, h4⟩
theorem Cm.none {w : World} {a : Option Addr} {cap : Nat} (hc : cap ≤ maxLen) : Cm w (.slice a 0 cap) [] := ⟨a, cap, rfl, Nat.zero_le _, hc, fun h => by simp at h⟩
theorem Cm.tail {w : World} {b o n cap : Nat} {k : K3} {l : List K3} (h : Cm w (.slice (some ⟨b, o, .none⟩) n cap) (k :: l)) : Cm w (.slice (some ⟨b, o + 3, .none⟩) (n - 1) (cap - 1)) l := by
  obtain ⟨a, cap', h1, h2, h3, h4⟩ := h.ex
  cases h1
  obtain ⟨b', o', e, hc⟩ := h4 (by simp)
  cases e
  refine ⟨some ⟨b, o + 3, .none⟩, cap - 1, by simp, by simp at h2; omega, by omega, fun _ => ⟨b, o + 3, rfl, fun i hi => ?_⟩⟩
  have := hc (i + 1) (by simpa using hi)
  simp only [List.getElem_cons_succ] at this
  rw [show o + 3 + i * 3 = o + (i + 1) * 3 by omega]
  exact this
end Go.Proofs.Ytgbmigfamefenaa
