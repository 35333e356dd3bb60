/- A disk of which one file has changed; cuts. -/
import Derived.Test.YtdcoeebpknipdaaFn4
namespace Go.Proofs.Ytdcoeebpknipdaa
open Go.RowKit Go.Maps

theorem owns_cells {w : World} {base r : Nat} {v : Value} {l : Str} (h : Owns w base v l) (hr : v.ownBlock = some r) : ∃ cur, w.heap[r]? = some (.cells cur 5 (0, 0)) := by
  rcases h.2 with ⟨h1, _⟩ | ⟨g, cap, cur, h1, _, h3, _⟩
  · rw [h1] at hr; cases hr
  · rw [h1] at hr
    simp only [Value.ownBlock, Option.some.injEq] at hr
    rw [← hr]
    exact ⟨cur, h3⟩
theorem MapZ.cells {w : World} {m : Nat} {Z : List Ent} (h : MapZ w (some m) Z) : ∃ es clock, w.heap[m]? = some (.map es clock) := by
  rcases h with ⟨h1, _⟩ | ⟨m', D, h1, ⟨es, clock, h2, _⟩, _⟩
  · cases h1
  · cases h1
    exact ⟨es, clock, h2⟩
/-- Unlike things lie in unlike blocks. -/
structure Knd (d : Nat) (mo : Option Nat) (Z : List Ent) : Prop where
  gd : ∀ x ∈ Z, x.g ≠ d
  rd : ∀ x ∈ Z, x.v.ownBlock ≠ some d
  rg : ∀ x ∈ Z, ∀ y ∈ Z, x.v.ownBlock ≠ some y.g
  md : mo ≠ some d
  mg : ∀ x ∈ Z, mo ≠ some x.g
  mr : ∀ x ∈ Z, ∀ m, mo = some m → x.v.ownBlock ≠ some m
theorem DkZ.knd {w : World} {d N : Nat} {F : Nat → Prop} {s : St} {mo : Option Nat} {Z : List Ent} (h : DkZ w d F N s mo Z) : Knd d mo Z := by
  have hd : w.heap[d]? = _ := h.b
  refine ⟨fun x hx e => ?_, fun x hx e => ?_, fun x hx y hy e => ?_, fun e => ?_, fun x hx e => ?_, fun x hx m e1 e => ?_⟩
  · have h1 : w.heap[x.g]? = _ := (h.e x hx).b
    rw [e, hd] at h1
    simp only [Option.some.injEq, Obj.cells.injEq] at h1
    exact absurd h1.2.1 (by decide)
  · obtain ⟨cur, h1⟩ := owns_cells (h.e x hx).o e
    rw [hd] at h1
    simp only [Option.some.injEq, Obj.cells.injEq] at h1
    exact absurd h1.2.1 (by decide)
  · obtain ⟨cur, h1⟩ := owns_cells (h.e x hx).o e
    have h2 : w.heap[y.g]? = _ := (h.e y hy).b
    rw [h2] at h1
    simp only [Option.some.injEq, Obj.cells.injEq] at h1
    exact absurd h1.2.1 (by decide)
  · have hm := h.m
    rw [e] at hm
    obtain ⟨es, clock, h1⟩ := hm.cells
    rw [hd] at h1
    cases h1
  · have hm := h.m
    rw [e] at hm
    obtain ⟨es, clock, h1⟩ := hm.cells
    have h2 : w.heap[x.g]? = _ := (h.e x hx).b
    rw [h2] at h1
    cases h1
  · have hm := h.m
    rw [e1] at hm
    obtain ⟨es, clock, h1⟩ := hm.cells
    obtain ⟨cur, h2⟩ := owns_cells (h.e x hx).o e
    rw [h2] at h1
    cases h1
theorem apart_mem {Z : List Ent} (h : Z.Pairwise Apart) {x y : Ent} (hx : x ∈ Z) (hy : y ∈ Z) : x = y ∨ Apart x y := by
  induction Z with
  | nil => cases hx
  | cons z Z ih =>
    obtain ⟨h1, h2⟩ := List.pairwise_cons.1 h
    rcases List.mem_cons.1 hx with rfl | hx' <;> rcases List.mem_cons.1 hy with rfl | hy'
    · exact .inl rfl
    · exact .inr (h1 y hy')
    · exact .inr (h1 x hx').symm
    · exact ih h2 hx' hy'
/-- e' for e. -/
def put1 (Z : List Ent) (e e' : Ent) : List Ent := Z.map fun x => if x.nm = e.nm then e' else x
theorem mem_put1 {Z : List Ent} {e e' x : Ent} (h : x ∈ put1 Z e e') : x = e' ∨ (x ∈ Z ∧ x.nm ≠ e.nm) := by
  obtain ⟨y, hy, hx⟩ := List.mem_map.1 h
  by_cases hn : y.nm = e.nm
  · rw [if_pos hn] at hx; exact .inl hx.symm
  · rw [if_neg hn] at hx; subst hx; exact .inr ⟨hy, hn⟩
theorem MD.put1 {D : DataW Unit} {Z : List Ent} {e e' : Ent} (h : MD D Z) (he : e ∈ Z) (hn : e'.nm = e.nm) (hg : e'.g = e.g) : MD D (put1 Z e e') := by
  refine ⟨fun x hx z => ?_, fun s => ?_, by rw [h.size]; simp [Proofs.Ytdcoeebpknipdaa.put1]⟩
  · rcases mem_put1 hx with rfl | ⟨h1, _⟩
    · rw [hn, hg]; exact h.at' e he z
    · exact h.at' x h1 z
  · rw [h.has s]
    unfold Proofs.Ytdcoeebpknipdaa.put1
    rw [List.any_map]
    congr 1
    funext x
    simp only [Function.comp]
    by_cases hx : x.nm = e.nm
    · rw [if_pos hx, hn, hx]
    · rw [if_neg hx]
theorem put1_apart {Z : List Ent} (h : Z.Pairwise Apart) {e e' : Ent} (hn : e'.nm = e.nm) (hg : e'.g = e.g) (hv : ∀ x ∈ Z, x.nm ≠ e.nm → ∀ r, e'.v.ownBlock = some r → x.v.ownBlock ≠ some r) (hgg : ∀ x ∈ Z, x.nm ≠ e.nm → x.g ≠ e.g) : (put1 Z e e').Pairwise Apart := by
  unfold put1
  rw [List.pairwise_map]
  refine h.imp_of_mem fun {a b} ha hb hab => ?_
  by_cases h1 : a.nm = e.nm <;> by_cases h2 : b.nm = e.nm
  · exact absurd (h1.trans h2.symm) hab.1
  · rw [if_pos h1, if_neg h2]
    exact ⟨by rw [hn]; exact fun e => h2 e.symm, by rw [hg]; exact fun e => hgg b hb h2 e.symm, fun r hr => hv b hb h2 r hr⟩
  · rw [if_neg h1, if_pos h2]
    exact ⟨by rw [hn]; exact h1, by rw [hg]; exact hgg a ha h1, fun r hr hr' => hv a ha h1 r hr' hr⟩
  · rw [if_neg h1, if_neg h2]
    exact hab
/-- One file has changed. -/
theorem DkZ.one {w w' : World} {d N N' : Nat} {F F' : Nat → Prop} {s : St} {mo : Option Nat} {Z : List Ent} (h : DkZ w d F N s mo Z) {e e' : Ent} (he : e ∈ Z) (hn : e'.nm = e.nm) (hg : e'.g = e.g) (ok : EOk w' F' e') (hF : ∀ i, F i → F' i) (hF' : ∀ i, F' i → i < w'.heap.size)
    (hbl : ∀ i, F i → i ≠ e.g → e.v.ownBlock ≠ some i → w'.heap[i]? = w.heap[i]?) (hv : e'.v.ownBlock = e.v.ownBlock ∨ ∀ r, e'.v.ownBlock = some r → w.heap.size ≤ r) (hN : N ≤ N') (hl : e'.bs.length ≤ N') (s' : St) (hs : s' = { s with fs := s.fs.map fun f => if f.nm = e.nm then e'.fl else f }) : DkZ w' d F' N' s' mo (put1 Z e e') := by
  subst hs
  have k := h.knd
  have hap := fun x (hx : x ∈ Z) (hne : x.nm ≠ e.nm) => (apart_mem h.ap hx he).resolve_left fun h => hne (by rw [h])
  refine ⟨?_, hF _ h.f, ?_, fun m hm => hF _ (h.fm m hm), fun x hx => ?_, put1_apart h.ap hn hg (fun x hx hne r hr => ?_) (fun x hx hne => (hap x hx hne).2.1), ?_, fun x hx => ?_, fun x hx => ?_, by simpa [put1] using h.few, h.ops, hF'⟩
  · have := h.b
    unfold BxA at this ⊢
    rw [hbl d h.f (fun q => k.gd e he q.symm) (k.rd e he)]
    exact this
  · rcases h.m with ⟨rfl, rfl⟩ | ⟨m, D, rfl, ⟨es, clock, h1, h2⟩, h3⟩
    · cases he
    · refine .inr ⟨m, D, rfl, ?_, h3.put1 he hn hg⟩
      have hlen : (put1 Z e e').length = Z.length := by simp [put1]
      rw [hlen]
      exact ⟨es, clock, (hbl m (h.fm m rfl) (fun q => k.mg e he (by rw [q])) (k.mr e he m rfl)).trans h1, h2⟩
  · rcases mem_put1 hx with rfl | ⟨h1, h2⟩
    · exact ok
    · have a := hap x h1 h2
      have o := h.e x h1
      refine ⟨?_, hF _ o.f, owns_block o.o fun r hr => hbl r (o.fv r hr) (fun q => k.rg x h1 e he (by rw [hr, q])) (fun q => a.2.2 r hr q), fun r hr => hF _ (o.fv r hr), o.le⟩
      have := o.b
      unfold BxA at this ⊢
      rw [hbl x.g o.f a.2.1 (k.rg e he x h1)]
      exact this
  · rcases hv with hv | hv
    · rw [hv] at hr
      exact fun q => (hap x hx hne).2.2 r q hr
    · intro q
      have h1 := hv r hr
      have h2 := h.lt r ((h.e x hx).fv r q)
      omega
  · show (put1 Z e e').map Ent.fl = s.fs.map _
    rw [← h.fs]
    unfold put1
    rw [List.map_map, List.map_map]
    refine List.map_congr_left fun x _ => ?_
    simp only [Function.comp]
    by_cases hx : x.nm = e.nm
    · rw [if_pos hx, if_pos (show x.fl.nm = e.nm from hx)]
    · rw [if_neg hx, if_neg (show ¬ x.fl.nm = e.nm from hx)]
  · rcases mem_put1 hx with rfl | ⟨h1, _⟩
    · exact hl
    · exact Nat.le_trans (h.n x h1) hN
  · rcases mem_put1 hx with rfl | ⟨h1, _⟩
    · rw [hn]; exact h.nm e he
    · exact h.nm x h1
def cutV (k : Nat) : Value → Value
  | .slice a _ c => .slice a k c
  | v => v
theorem cutV_block (k : Nat) (v : Value) : (cutV k v).ownBlock = v.ownBlock := by
  cases v <;> try rfl
  rename_i a n c
  cases a <;> rfl
theorem owns_cut {w : World} {base k : Nat} {v : Value} {l : Str} (h : Owns w base v l) (hk : k ≤ l.length) : Owns w base (cutV k v) (l.take k) := by
  have hlen : (l.take k).length = k := by simp; omega
  refine ⟨by simp [bv_length], ?_⟩
  rw [hlen]
  rcases h.2 with ⟨rfl, h0⟩ | ⟨g, cap, cur, rfl, h2, h3, h4, h5, h6, h7⟩
  · left
    have : k = 0 := by omega
    subst this
    exact ⟨rfl, rfl⟩
  · right
    refine ⟨g, cap, cur, rfl, h2, h3, by omega, h5, h6, ?_⟩
    have : bv (l.take k) = (bv l).take k := by simp [bv, List.map_take]
    rw [this, ← h7, List.take_take]
    congr 1
    omega
def cutE (part : Int) (e : Ent) : Ent := ⟨e.nm, e.g, cutV (cutK part e.bs.length e.sy) e.v, e.bs.take (cutK part e.bs.length e.sy), cutK part e.bs.length e.sy⟩
theorem cutK_le {part : Int} {n sy : Nat} (h : sy ≤ n) : cutK part n sy ≤ n := by unfold cutK; omega
theorem cutE_fl (part : Int) (e : Ent) : (cutE part e).fl = cutF part e.fl := rfl
theorem owns_sl {w : World} {base : Nat} {v : Value} {l : Str} (h : Owns w base v l) : ∃ a c, v = .slice a l.length c ∧ l.length ≤ c ∧ c ≤ maxLen := by
  rcases h.2 with ⟨rfl, h0⟩ | ⟨g, cap, cur, rfl, _, _, h4, h5, _⟩
  · exact ⟨none, 0, by rw [h0], by omega, by simp⟩
  · exact ⟨_, cap, rfl, h4, h5⟩
/-- A file of the disk is cut. -/
theorem fcut_dk (w : World) (d N : Nat) (F : Nat → Prop) (s : St) (mo : Option Nat) (Z : List Ent) (e : Ent) (part : Int) (h : DkZ w d F N s mo Z) (he : e ∈ Z) :
    Calls Try.prog 41 #[.pointer (some ⟨e.g, 0, none⟩), .int .i64 part] w fun ev w' => ev = .returned (.tuple #[]) ∧ DkZ w' d F N { s with fs := s.fs.map fun f => if f.nm = e.nm then (cutE part e).fl else f } mo (put1 Z e (cutE part e)) ∧ w.grownBy w' (some e.g) := by
  have o := h.e e he
  obtain ⟨a, c, hv, h1, h2⟩ := owns_sl o.o
  have hb := o.b
  rw [hv] at hb
  refine (fcut_any w e.g a e.bs.length c e.sy part hb o.le h1 h2).mono ?_
  rintro ev w' ⟨rfl, m, rfl⟩
  have hK := cutK_le (part := part) o.le
  have g1 : w.grownBy (((w.drewN m).setCell ⟨e.g, 0, none⟩ (.slice a (cutK part e.bs.length e.sy) c)).setCell ⟨e.g, 1, none⟩ (.int .i64 (cutK part e.bs.length e.sy : Int))) (some e.g) :=
    grown_trans (show w.grownBy (w.drewN m) _ from ⟨rfl, rfl, rfl, Nat.le_refl _, fun _ _ _ => rfl⟩) (grown_trans grown_setCell grown_setCell)
  have hb2 : BxA (w.drewN m) e.g 75 #[.slice a e.bs.length c, .int .i64 (e.sy : Int)] := hb
  have hb3 := (hb2.set 0 (.slice a (cutK part e.bs.length e.sy) c)).set 1 (.int .i64 (cutK part e.bs.length e.sy : Int))
  refine ⟨rfl, h.one (e' := cutE part e) he rfl rfl ⟨?_, o.f, ?_, ?_, ?_⟩ (fun _ h => h) (fun i hi => Nat.lt_of_lt_of_le (h.lt i hi) g1.size) (fun i hi hne _ => g1.block i (h.lt i hi) (fun q => hne (by simpa using q))) (.inl (cutV_block _ _)) (Nat.le_refl _) ?_ _ rfl, g1⟩
  · show BxA _ e.g _ #[cutV _ e.v, _]
    rw [hv]
    exact hb3
  · refine owns_block (owns_cut o.o hK) fun r hr => g1.block r ?_ fun q => ?_
    · rw [show (cutE part e).v = cutV _ e.v from rfl, cutV_block] at hr
      exact h.lt r (o.fv r hr)
    · rw [show (cutE part e).v = cutV _ e.v from rfl, cutV_block] at hr
      exact h.knd.rg e he e he (by rw [hr]; exact q)
  · intro r hr
    rw [show (cutE part e).v = cutV _ e.v from rfl, cutV_block] at hr
    exact o.fv r hr
  · show cutK _ _ _ ≤ (e.bs.take _).length
    simp
    omega
  · show (e.bs.take _).length ≤ N
    have := h.n e he
    simp
    omega
end Go.Proofs.Ytdcoeebpknipdaa
