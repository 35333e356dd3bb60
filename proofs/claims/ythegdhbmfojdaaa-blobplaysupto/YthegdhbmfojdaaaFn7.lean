/- A disk of which one file has changed; cuts. -/
import Derived.Test.YthegdhbmfojdaaaFn4
namespace Go.Proofs.Ythegdhbmfojdaaa
open Go.RowKit Go.Maps

theorem owns_cells {w : World} {base r : Nat} {v : Value} {l : Str} (h : Owns w base v l) (hr : v.ownBlock = some r) : ∃ cur, w.heap[r]? = some (.cells cur 5 (0, 0)) := by
  rcases h.2 with ⟨h1, _⟩ | ⟨g, cap, cur, h1, _, h3, _⟩
  · rw [h1] at hr; cases hr
  · rw [h1] at hr
    simp only [Value.ownBlock, Option.some.injEq] at hr
    rw [← hr]
    exact ⟨cur, h3⟩
theorem MapZ.cells {w : World} {m : Nat} {Z : List Ent} (h : MapZ w (some m) Z) : ∃ es clock, w.heap[m]? = some (.map es clock) := by
  rcases h with ⟨h1, _⟩ | ⟨m', D, h1, ⟨es, clock, h2, _⟩, _⟩
  · cases h1
  · cases h1
    exact ⟨es, clock, h2⟩
/-- Unlike things lie in unlike blocks. -/
structure Knd (d : Nat) (mo : Option Nat) (Z : List Ent) : Prop where
  gd : ∀ x ∈ Z, x.g ≠ d
  rd : ∀ x ∈ Z, x.v.ownBlock ≠ some d
  rg : ∀ x ∈ Z, ∀ y ∈ Z, x.v.ownBlock ≠ some y.g
  md : mo ≠ some d
  mg : ∀ x ∈ Z, mo ≠ some x.g
  mr : ∀ x ∈ Z, ∀ m, mo = some m → x.v.ownBlock ≠ some m
theorem DkZ.knd {w : World} {d N : Nat} {F : Nat → Prop} {s : St} {mo : Option Nat} {Z : List Ent} (h : DkZ w d F N s mo Z) : Knd d mo Z := by
  have hd : w.heap[d]? = _ := h.b
  refine ⟨fun x hx e => ?_, fun x hx e => ?_, fun x hx y hy e => ?_, fun e => ?_, fun x hx e => ?_, fun x hx m e1 e => ?_⟩
  · have h1 : w.heap[x.g]? = _ := (h.e x hx).b
    rw [e, hd] at h1
    simp only [Option.some.injEq, Obj.cells.injEq] at h1
    exact absurd h1.2.1 (by decide)
  · obtain ⟨cur, h1⟩ := owns_cells (h.e x hx).o e
    rw [hd] at h1
    simp only [Option.some.injEq, Obj.cells.injEq] at h1
    exact absurd h1.2.1 (by decide)
  · obtain ⟨cur, h1⟩ := owns_cells (h.e x hx).o e
    have h2 : w.heap[y.g]? = _ := (h.e y hy).b
    rw [h2] at h1
    simp only [Option.some.injEq, Obj.cells.injEq] at h1
    exact absurd h1.2.1 (by decide)
  · have hm := h.m
    rw [e] at hm
    obtain ⟨es, clock, h1⟩ := hm.cells
    rw [hd] at h1
    cases h1
  · have hm := h.m
    rw [e] at hm
    obtain ⟨es, clock, h1⟩ := hm.cells
    have h2 : w.heap[x.g]? = _ := (h.e x hx).b
    rw [h2] at h1
    cases h1
  · have hm := h.m
    rw [e1] at hm
    obtain ⟨es, clock, h1⟩ := hm.cells
    obtain ⟨cur, h2⟩ := owns_cells (h.e x hx).o e
    rw [h2] at h1
    cases h1
theorem apart_mem {Z : List Ent} (h : Z.Pairwise Apart) {x y : Ent} (hx : x ∈ Z) (hy : y ∈ Z) : x = y ∨ Apart x y := by
  induction Z with
  | nil => cases hx
  | cons z Z ih =>
    obtain ⟨h1, h2⟩ := List.pairwise_cons.1 h
    rcases List.mem_cons.1 hx with rfl | hx' <;> rcases List.mem_cons.1 hy with rfl | hy'
    · exact .inl rfl
    · exact .inr (h1 y hy')
    · exact .inr (h1 x hx').symm
    · exact ih h2 hx' hy'
/-- e' for e. -/
def put1 (Z : List Ent) (e e' : Ent) : List Ent := Z.map fun x => if x.nm = e.nm then e' else x
theorem mem_put1 {Z : List Ent} {e e' x : Ent} (h : x ∈ put1 Z e e') : x = e' ∨ (x ∈ Z ∧ x.nm ≠ e.nm) := by
  obtain ⟨y, hy, hx⟩ := List.mem_map.1 h
  by_cases hn : y.nm = e.nm
  · rw [if_pos hn] at hx; exact .inl hx.symm
  · rw [if_neg hn] at hx; subst hx; exact .inr ⟨hy, hn⟩
theorem MD.put1 {D : DataW Unit} {Z : List Ent} {e e' : Ent} (h : MD D Z) (he : e ∈ Z) (hn : e'.nm = e.nm) (hg : e'.g = e.g) : MD D (put1 Z e e') := by
  refine ⟨fun x hx z => ?_, fun s => ?_, by rw [h.size]; simp [Proofs.Ythegdhbmfojdaaa.put1]⟩
  · rcases mem_put1 hx with rfl | ⟨h1, _⟩
    · rw [hn, hg]; exact h.at' e he z
    · exact h.at' x h1 z
  · rw [h.has s]
    unfold Proofs.Ythegdhbmfojdaaa.put1
    rw [List.any_map]
    congr 1
    funext x
    simp only [Function.comp]
    by_cases hx : x.nm = e.nm
    · rw [if_pos hx, hn, hx]
    · rw [if_neg hx]
theorem put1_apart {Z : List Ent} (h : Z.Pairwise Apart) {e e' : Ent} (hn : e'.nm = e.nm) (hg : e'.g = e.g) (hv : ∀ x ∈ Z, x.nm ≠ e.nm → ∀ r, e'.v.ownBlock = some r → x.v.ownBlock ≠ some r) (hgg : ∀ x ∈ Z, x.nm ≠ e.nm → x.g ≠ e.g) : (put1 Z e e').Pairwise Apart := by
  unfold put1
  rw [List.pairwise_map]
  refine h.imp_of_mem fun {a b} ha hb hab => ?_
  by_cases h1 : a.nm = e.nm <;> by_cases h2 : b.nm = e.nm
  · exact absurd (h1.trans h2.symm) hab.1
  · rw [if_pos h1, if_neg h2]
    exact ⟨by rw [hn]; exact fun e => h2 e.symm, by rw [hg]; exact fun e => hgg b hb h2 e.symm, fun r hr => hv b hb h2 r hr⟩
  · rw [if_neg h1, if_pos h2]
    exact ⟨by rw [hn]; exact h1, by rw [hg]; exact hgg a ha h1, fun r hr hr' => hv a ha h1 r hr' hr⟩
  · rw [if_neg h1, if_neg h2]
    exact hab
/-- One file has changed. -/
theorem DkZ.one {w w' : World} {d N N' : Nat} {F F' : Nat → Prop} {s : St} {mo : Option Nat} {Z : List Ent} (h : DkZ w d F N s mo Z) {e e' : Ent} (he : e ∈ Z) (hn : e'.nm = e.nm) (hg : e'.g = e.g) (ok : EOk w' F' e') (hF : ∀ i, F i → F' i) (hF' : ∀ i, F' i → i < w'.heap.size)
    (hbl : ∀ i, F i → i ≠ e.g → e.v.ownBlock ≠ some i → w'.heap[i]? = w.heap[i]?) (hv : e'.v.ownBlock = e.v.ownBlock ∨ ∀ r, e'.v.ownBlock = some r → w.heap.size ≤ r) (hN : N ≤ N') (hl : e'.bs.length ≤ N') (s' : St) (hs : s' = { s with fs := s.fs.map fun f => if f.nm = e.nm then e'.fl else f }) : DkZ w' d F' N' s' mo (put1 Z e e') := by
  subst hs
  have k := h.knd
  have hap := fun x (hx : x ∈ Z) (hne : x.nm ≠ e.nm) => (apart_mem h.ap hx he).resolve_left fun h => hne (by rw [h])
  refine ⟨?_, hF _ h.f, ?_, fun m hm => hF _ (h.fm m hm), fun x hx => ?_, put1_apart h.ap hn hg (fun x hx hne r hr => ?_) (fun x hx hne => (hap x hx hne).2.1), ?_, fun x hx => ?_, fun x hx => ?_, by simpa [put1] using h.few, h.ops, hF'⟩
  · have := h.b
    unfold BxA at this ⊢
    rw [hbl d h.f (fun q => k.gd e he q.symm) (k.rd e he)]
    exact this
  · rcases h.m with ⟨rfl, rfl⟩ | ⟨m, D, rfl, ⟨es, clock, h1, h2⟩, h3⟩
    · cases he
    · refine .inr ⟨m, D, rfl, ?_, h3.put1 he hn hg⟩
      have hlen : (put1 Z e e').length = Z.length := by simp [put1]
      rw [hlen]
      exact ⟨es, clock, (hbl m (h.fm m rfl) (fun q => k.mg e he (by rw [q])) (k.mr e he m rfl)).trans h1, h2⟩
  · rcases mem_put1 hx with rfl | ⟨h1, h2⟩
    · exact ok
    · have a := hap x h1 h2
      have o := h.e x h1
      refine ⟨?_, hF _ o.f, owns_block o.o fun r hr => hbl r (o.fv r hr) (fun q => k.rg x h1 e he (by rw [hr, q])) (fun q => a.2.2 r hr q), fun r hr => hF _ (o.fv r hr), o.le⟩
      have := o.b
      unfold BxA at this ⊢
      rw [hbl x.g o.f a.2.1 (k.rg e he x h1)]
      exact this
  · rcases hv with hv | hv
    · rw [hv] at hr
      exact fun q => (hap x hx hne).2.2 r q hr
    · intro q
      have h1 := hv r hr
      have h2 := h.lt r ((h.e x hx).fv r q)
      omega
  · show (put1 Z e e').map Ent.fl = s.fs.map _
    rw [← h.fs]
    unfold put1
    rw [List.map_map, List.map_map]
    refine List.map_congr_left fun x _ => ?_
    simp only [Function.comp]
    by_cases hx : x.nm = e.nm
    · rw [if_pos hx, if_pos (show x.fl.nm = e.nm from hx)]
    · rw [if_neg hx, if_neg (show ¬ x.fl.nm = e.nm from hx)]
  · rcases mem_put1 hx with rfl | ⟨h1, _⟩
    · exact hl
    · exact Nat.le_trans (h.n x h1) hN
  · rcases mem_put1 hx with rfl | ⟨h1, _⟩
    · rw [hn]; exact h.nm e he
    · exact h.nm x h1
def cutV (k : Nat) : Value → Value
  | .slice a _ c => .slice a k c
  | v => v
theorem cutV_block (k : Nat) (v : Value) : (cutV k v).ownBlock = v.ownBlock := by
  cases v <;> try rfl
  rename_i a n c
  cases a <;> rfl
theorem owns_cut {w : World} {base k : Nat} {v : Value} {l : Str} (h : Owns w base v l) (hk : k ≤ l.length) : Owns w base (cutV k v) (l.take k) := by
  have hlen : (l.take k).length = k := by simp; omega
  refine ⟨by simp [bv_length], ?_⟩
  rw [hlen]
  rcases h.2 with ⟨rfl, h0⟩ | ⟨g, cap, cur, rfl, h2, h3, h4, h5, h6, h7⟩
  · left
    have : k = 0 := by omega
    subst this
    exact ⟨rfl, rfl⟩
  · right
    refine ⟨g, cap, cur, rfl, h2, h3, by omega, h5, h6, ?_⟩
    have : bv (l.take k) = (bv l).take k := by simp [bv, List.map_take]
    rw [this, ← h7, List.take_take]
    congr 1
    omega
def cutE (part : Int) (e : Ent) : Ent := ⟨e.nm, e.g, cutV (cutK part e.bs.length e.sy) e.v, e.bs.take (cutK part e.bs.length e.sy), cutK part e.bs.length e.sy⟩
theorem cutK_le {part : Int} {n sy : Nat} (h : sy ≤ n) : cutK part n sy ≤ n := by unfold cutK; omega
theorem cutE_fl (part : Int) (e : Ent) : (cutE part e).fl = cutF part e.fl := rfl
theorem owns_sl {w : World} {base : Nat} {v : Value} {l : Str} (h : Owns w base v l) : ∃ a c, v = .slice a l.length c ∧ l.length ≤ c ∧ c ≤ maxLen := by
  rcases h.2 with ⟨rfl, h0⟩ | ⟨g, cap, cur, rfl, _, _, h4, h5, _⟩
  · exact ⟨none, 0, by rw [h0], by omega, by simp⟩
  · exact ⟨_, cap, rfl, h4, h5⟩
/-- A file of the disk is cut. -/
theorem fcut_dk (w : World) (d N : Nat) (F : Nat → Prop) (s : St) (mo : Option Nat) (Z : List Ent) (e : Ent) (part : Int) (h : DkZ w d F N s mo Z) (he : e ∈ Z) :
    Calls Try.prog 74 #[.pointer (some ⟨e.g, 0, none⟩), .int .i64 part] w fun ev w' => ev = .returned (.tuple #[]) ∧ DkZ w' d F N { s with fs := s.fs.map fun f => if f.nm = e.nm then (cutE part e).fl else f } mo (put1 Z e (cutE part e)) ∧ w.grownBy w' (some e.g) := by
  have o := h.e e he
  obtain ⟨a, c, hv, h1, h2⟩ := owns_sl o.o
  have hb := o.b
  rw [hv] at hb
  refine (fcut_any w e.g a e.bs.length c e.sy part hb o.le h1 h2).mono ?_
  rintro ev w' ⟨rfl, m, rfl⟩
  have hK := cutK_le (part := part) o.le
  have g1 : w.grownBy (((w.drewN m).setCell ⟨e.g, 0, none⟩ (.slice a (cutK part e.bs.length e.sy) c)).setCell ⟨e.g, 1, none⟩ (.int .i64 (cutK part e.bs.length e.sy : Int))) (some e.g) :=
    grown_trans (show w.grownBy (w.drewN m) _ from ⟨rfl, rfl, rfl, Nat.le_refl _, fun _ _ _ => rfl⟩) (grown_trans grown_setCell grown_setCell)
  have hb2 : BxA (w.drewN m) e.g 89 #[.slice a e.bs.length c, .int .i64 (e.sy : Int)] := hb
  have hb3 := (hb2.set 0 (.slice a (cutK part e.bs.length e.sy) c)).set 1 (.int .i64 (cutK part e.bs.length e.sy : Int))
  refine ⟨rfl, h.one (e' := cutE part e) he rfl rfl ⟨?_, o.f, ?_, ?_, ?_⟩ (fun _ h => h) (fun i hi => Nat.lt_of_lt_of_le (h.lt i hi) g1.size) (fun i hi hne _ => g1.block i (h.lt i hi) (fun q => hne (by simpa using q))) (.inl (cutV_block _ _)) (Nat.le_refl _) ?_ _ rfl, g1⟩
  · show BxA _ e.g _ #[cutV _ e.v, _]
    rw [hv]
    exact hb3
  · refine owns_block (owns_cut o.o hK) fun r hr => g1.block r ?_ fun q => ?_
    · rw [show (cutE part e).v = cutV _ e.v from rfl, cutV_block] at hr
      exact h.lt r (o.fv r hr)
    · rw [show (cutE part e).v = cutV _ e.v from rfl, cutV_block] at hr
      exact h.knd.rg e he e he (by rw [hr]; exact q)
  · intro r hr
    rw [show (cutE part e).v = cutV _ e.v from rfl, cutV_block] at hr
    exact o.fv r hr
  · show cutK _ _ _ ≤ (e.bs.take _).length
    simp
    omega
  · show (e.bs.take _).length ≤ N
    have := h.n e he
    simp
    omega
end Go.Proofs.Ythegdhbmfojdaaa

namespace Go.Proofs.Ythegdhbmfojdaaa
open Go.RowKit Go.Maps

def mkS (t : Str) : Value := .string ⟨t.toArray⟩
def mkP : Option Nat → Value
  | none => .pointer none
  | some g => .pointer (some ⟨g, 0, none⟩)
theorem invS (key : Value) (kl : Lit) (h : keyOf Try.prog 9 key = some kl) : ∃ x, key = mkS x := by
  rw [Go.keyOf_string Try.underlying9] at h
  cases key <;> simp [mapKey, Try.underlying9] at h
  rename_i s
  exact ⟨s.data.toList, by unfold mkS; rw [Array.toArray_toList]⟩
theorem mkS_key {t : Str} {kl : Lit} (h : keyOf Try.prog 9 (mkS t) = some kl) : kl = .string t := by
  rw [Go.keyOf_string Try.underlying9] at h
  simp [mapKey, Try.underlying9, mkS] at h
  exact h.2.symm
theorem invP (v : Value) (y : DataW Unit × List MemPlace) (h : pel v = some y) : ∃ c, v = mkP c := by
  rcases pel_inv h with rfl | ⟨g, rfl, _⟩
  · exact ⟨none, rfl⟩
  · exact ⟨some g, rfl⟩
theorem entry_of {D : DataW Unit} {Z : List Ent} {t : Str} {kl : Lit} {c : Option Nat} {y : DataW Unit × List MemPlace} (hd : MD D Z) (hk : keyOf Try.prog 9 (mkS t) = some kl) (hp : pel (mkP c) = some y) (hat : ∀ z, D.atKey kl z = y.1) : ∃ e ∈ Z, e.nm = t ∧ c = some e.g := by
  have hk' := mkS_key hk
  subst hk'
  have hh : Maps.has D (.string t) = true := Maps.has_true_of_atKey hat
  rw [hd.has t, List.any_eq_true] at hh
  obtain ⟨e, he, h1⟩ := hh
  have h2 : e.nm = t := by simpa using h1
  refine ⟨e, he, h2, ?_⟩
  have h3 := hd.at' e he .nil
  rw [h2, hat] at h3
  obtain ⟨y1, y2⟩ := y
  simp only at h3
  subst h3
  have := pel_at hp
  cases c with
  | none => cases this
  | some g =>
    simp only [mkP, Value.pointer.injEq, Option.some.injEq, Addr.mk.injEq] at this
    rw [this.1]
/-- Those that don't come any more are cut. -/
def cutZ (part : Int) (left : Lit → Bool) (Z : List Ent) : List Ent := Z.map fun e => if left (.string e.nm) then e else cutE part e
theorem cutZ_start {part : Int} {left : Lit → Bool} {Z : List Ent} (h : ∀ e ∈ Z, left (.string e.nm) = true) : cutZ part left Z = Z := by
  unfold cutZ
  rw [List.map_congr_left (g := id) fun e he => by rw [if_pos (h e he)]; rfl]
  simp
theorem cutZ_end {part : Int} {left : Lit → Bool} {Z : List Ent} (h : ∀ k, left k = false) : cutZ part left Z = Z.map (cutE part) := List.map_congr_left fun e _ => by rw [if_neg (by rw [h]; decide)]
theorem cutZ_step {part : Int} {left : Lit → Bool} {Z : List Ent} {e : Ent} (hZ : Z.Pairwise Apart) (he : e ∈ Z) (hl : left (.string e.nm) = true) : put1 (cutZ part left Z) e (cutE part e) = cutZ part (fun z => left z && !z.sameKey (.string e.nm)) Z := by
  unfold put1 cutZ
  rw [List.map_map]
  refine List.map_congr_left fun x hx => ?_
  simp only [Function.comp]
  by_cases hn : x.nm = e.nm
  · have hxe : x = e := (apart_mem hZ hx he).resolve_right fun h => h.1 hn
    subst hxe
    have hs : Lit.sameKey (.string x.nm) (.string x.nm) = true := WideAt.sameKey_self trivial
    simp [hl, hs]
  · have hs : Lit.sameKey (.string x.nm) (.string e.nm) = false := Maps.sameKey_ne fun h => hn (by injection h)
    by_cases hlx : left (.string x.nm) = true
    · simp [hlx, hs, hn]
    · have : ¬ (cutE part x).nm = e.nm := hn
      simp [hlx, this]
theorem mem_cutZ {part : Int} {left : Lit → Bool} {Z : List Ent} {e : Ent} (he : e ∈ Z) (hl : left (.string e.nm) = true) : e ∈ cutZ part left Z := List.mem_map.2 ⟨e, he, by rw [if_pos hl]⟩
theorem cutZ_md {D : DataW Unit} {part : Int} {left : Lit → Bool} {Z : List Ent} (h : MD D Z) : MD D (cutZ part left Z) := by
  refine ⟨fun x hx z => ?_, fun s => ?_, by rw [h.size]; simp [cutZ]⟩
  · obtain ⟨e, he, rfl⟩ := List.mem_map.1 hx
    by_cases hl : left (.string e.nm) = true
    · rw [if_pos hl]; exact h.at' e he z
    · rw [if_neg hl]; exact h.at' e he z
  · rw [h.has s]
    unfold cutZ
    rw [List.any_map]
    congr 1
    funext x
    simp only [Function.comp]
    by_cases hl : left (.string x.nm) = true
    · rw [if_pos hl]
    · rw [if_neg hl]; rfl
theorem DkZ.st {w : World} {d N : Nat} {F : Nat → Prop} {s : St} {mo : Option Nat} {Z : List Ent} (h : DkZ w d F N s mo Z) (s' : St) (h1 : s'.ops = s.ops) (h2 : s'.off = s.off) (h3 : s'.set = s.set) (h4 : s'.op = s.op) (h5 : s'.part = s.part) (hf : Z.map Ent.fl = s'.fs) : DkZ w d F N s' mo Z :=
  ⟨by rw [h1, h2, h3, h4, h5]; exact h.b, h.f, h.m, h.fm, h.e, h.ap, hf, h.n, h.nm, h.few, by rw [h1]; exact h.ops, h.lt⟩
set_option maxRecDepth 100000 in
set_option maxHeartbeats 1600000 in
theorem cut_any (w : World) (d N : Nat) (F : Nat → Prop) (s : St) (part : Int) (h : Dk w d F N s) :
    Calls Try.prog 38 #[.pointer (some ⟨d, 0, none⟩), .int .i64 part] w fun e w' => e = .returned (.tuple #[]) ∧ Dk w' d F N (s.cut part) ∧ Fr F w w' := by
  obtain ⟨mo, Z, hz⟩ := h
  have c2 := hz.b.cell 2 _ rfl
  have c0 := hz.b.cell 0 _ rfl
  obtain ⟨o, ho⟩ : ∃ o, o = s.off := ⟨_, rfl⟩
  rw [show (#[Value.map mo, .int .i64 (s.ops : Int), .bool s.off, .bool s.set, .int .i64 s.op, .int .i64 s.part] : Array Value)[2] = .bool o by rw [ho]; rfl] at c2
  have HO : Hid (o = s.off) := ho
  have HZ : Hid (DkZ w d F N s mo Z) := hz
  clear ho
  cases o
  case true =>
    clear hz
    go_enter Try.func38, Try.ntmps38
    go_wp2_with fail
    refine bodyPost_ret (results_none rfl _ _ _) rfl ?_
    refine ⟨rfl, ?_, Fr.refl _ _⟩
    unfold St.cut
    rw [← HO.out]
    exact ⟨mo, Z, HZ.out⟩
  case false =>
    have HC : Hid (s.cut part = { s with fs := s.fs.map (cutF part), off := true }) := by apply hide; unfold St.cut; rw [← HO.out]; rfl
    rcases hz.m with ⟨rfl, rfl⟩ | ⟨m, D, rfl, hown, hmd⟩
    · have hrg := run_range_nilMap (P := Try.prog) w 65 9 90 Try.underlying65
      have hnx : ∀ ty, (Instr.next (.pointer (some ⟨w.heap.size, 0, none⟩)) false ty).run Try.prog (w.alloc (.mapIter none 0 #[] 0)) = _ := fun ty => run_next_nilMap w ty 0 0 #[]
      have hb1 : BxA (w.alloc (.mapIter none 0 #[] 0)) d 69 #[.map none, .int .i64 (s.ops : Int), .bool s.off, .bool s.set, .int .i64 s.op, .int .i64 s.part] := by
        have := hz.b
        unfold BxA at this ⊢
        rw [Below.heap_alloc _ _ _ (hz.b.lt)]
        exact this
      have c2' := hb1.cell 2 _ rfl
      have f2' := hb1.free 2
      have HB1 : Hid _ := hb1
      clear hz hb1
      go_enter Try.func38, Try.ntmps38
      go_wp2_with fail
      refine wp_loop_rounds 1 ?_
      rw [rounds_succ]
      go_wp2_with fail
      go_end0
      have hz := HZ.out
      have hz1 := hz.below ((Below.refl _ w).alloc (Nat.le_refl _) (.mapIter none 0 #[] 0))
      refine ⟨rfl, ?_, ?_⟩
      · rw [HC.out]
        refine ⟨none, [], hz1.box _ (hz1.b.set 2 _) (fun i hi => Below.heap_setCell _ _ _ _ hi) (by simp) ?_ hz.ops⟩
        show s.fs.map (cutF part) = s.fs
        rw [← hz.fs]
        rfl
      · exact (Fr.of_below ((Below.refl _ w).alloc (Nat.le_refl _) _)).trans (setd_fr hz1) fun _ _ h => h
    · have HM : Hid _ := hown
      have HMD : Hid (MD D Z) := hmd
      have hmdl : ∀ e ∈ Z, Maps.has D (.string e.nm) = true := fun e he => by
        rw [hmd.has, List.any_eq_true]
        exact ⟨e, he, by simp⟩
      have hd0 : ∀ w0, w.grownBy w0 none → DkZ w0 d F N { s with fs := (cutZ part (Maps.has D) Z).map Ent.fl } (some m) (cutZ part (Maps.has D) Z) := fun w0 g => by
        rw [cutZ_start hmdl]
        exact (hz.frame g.size fun i hi => g.block i (hz.lt i hi) (by simp)).st _ rfl rfl rfl rfl rfl rfl
      have HD0 : Aside _ := hd0
      have HSZ : Hid (Maps.size D = Z.length) := hmd.size
      have HLT : Hid (∀ i, F i → i < w.heap.size) := hz.lt
      clear hz hown hmd hmdl hd0
      go_enter Try.func38, Try.ntmps38
      go_wp2_with (first | (at_range; refine wpList_range_own _ rfl _ 65 rfl 9 90 law Try.underlying65 _ m Z.length D rfl HM.out ?_; intro w0 hrg0 hg0 hs0))
      go_frame
      have HR0 : Hid _ := hrg0
      have HG0 : Hid _ := hg0
      clear hrg0 hg0
      go_loopg [5] Z.length (fun kx _ wr => ∃ (left : Lit → Bool) (cnt : Nat), cnt ≤ kx ∧ Hid (wr.ranges Try.prog 9 pel m w.heap.size Z.length D left cnt) ∧ Hid (DkZ wr d F N { s with fs := (cutZ part left Z).map Ent.fl } (some m) (cutZ part left Z)) ∧ Hid (Fr F w wr))
      case atStart => exact ⟨Maps.has D, Maps.size D, by rw [HSZ.out]; exact Nat.le_refl _, HR0, HD0.out _ HG0.out, Fr.of_grown HG0.out (fun _ h => by cases h)⟩
      case round =>
        obtain ⟨left, cnt, hcnt, HR, HD, HF⟩ := hrel
        have c2w := HD.out.b.cell 2 _ rfl
        have f2w := HD.out.b.free 2
        go_wp2_with (first | (at_next; refine wpList_next_ranges _ rfl _ rfl 9 law pel mkS mkP invS invP m w.heap.size Z.length D left cnt rfl HR.out ?_ ?_))
        · intro _ hl0
          have HL0 : Hid _ := hl0
          clear hl0
          go_wp2_with fail
          go_end0
          have hd := HD.out
          refine ⟨rfl, ?_, HF.out.trans (setd_fr hd) fun _ _ h => h⟩
          rw [HC.out]
          have hb := hd.box { s with fs := (cutZ part left Z).map Ent.fl, off := true } (hd.b.set 2 _) (fun i hi => Below.heap_setCell _ _ _ _ hi) (by simp) rfl hd.ops
          refine ⟨some m, cutZ part left Z, hb.st _ rfl rfl rfl rfl rfl ?_⟩
          show _ = s.fs.map (cutF part)
          rw [cutZ_end HL0.out, ← HZ.out.fs, List.map_map, List.map_map]
          rfl
        · intro x c kl y1 y2 w1 cnt1 hkey hlk hp hat hrg1 hlt hg1 hs1 hen
          obtain ⟨e, he, hex, hc⟩ := entry_of HMD.out hkey hp hat
          have hkl : kl = .string e.nm := by rw [hex]; exact mkS_key hkey
          have hle : left (.string e.nm) = true := by rw [← hkl]; exact hlk
          have hd1 := HD.out.frame hg1.size fun i hi => hg1.block i (HD.out.lt i hi) fun q => by
            have := HLT.out i hi
            simp only [Option.some.injEq] at q
            omega
          have kk := fcut_dk w1 d N F _ (some m) (cutZ part left Z) e part hd1 (mem_cutZ he hle)
          rw [show Value.pointer (some ⟨e.g, 0, none⟩) = mkP c by rw [hc]; rfl] at kk
          have HE : Hid _ := And.intro he (And.intro hkl (And.intro hle (And.intro hrg1 (And.intro hg1 (And.intro hd1 hlt)))))
          clear he hex hc hkl hle hd1 hkey hlk hp hat hrg1 hg1 hlt c2w f2w
          go_wp2_with fail
          refine kk.mono ?_
          rintro ev w2 ⟨rfl, hd2, hg2⟩
          have H2 : Hid _ := And.intro hd2 hg2
          clear hd2 hg2 kk
          go_wp2_with fail
          obtain ⟨he, hkl, hle, hrg1, hg1, hd1, hlt⟩ := HE.out
          go_roundg cnt1
          case measure => omega
          case rel =>
            obtain ⟨hd2, hg2⟩ := H2.out
            rw [cutZ_step HZ.out.ap he hle, ← hkl] at hd2
            refine ⟨_, cnt1, Nat.le_refl _, hrg1.kept hg2 ?_ ?_, hd2.st _ rfl rfl rfl rfl rfl rfl, ?_⟩
            · exact fun q => HZ.out.knd.mg e he (by simpa using q)
            · exact fun q => by
                have := HLT.out _ (HZ.out.e e he).f
                simp only [Option.some.injEq] at q
                omega
            · refine (HF.out.trans (Fr.of_grown (F := fun i => F i ∨ i = w.heap.size) hg1 fun j hj => .inl (.inr (by simpa using hj.symm))) ?_).trans (Fr.of_grown (F := F) hg2 fun j hj => .inl (by cases hj; exact (HZ.out.e e he).f)) fun _ _ h => h
              intro i hi h
              rcases h with h | h
              · exact h
              · omega
end Go.Proofs.Ythegdhbmfojdaaa

namespace Go.Proofs.Ythegdhbmfojdaaa
open Go.RowKit Go.Maps

set_option maxRecDepth 100000 in
set_option maxHeartbeats 1600000 in
theorem count_any (w : World) (d N : Nat) (F : Nat → Prop) (s : St) (h : Dk w d F N s) (hop : s.ops < 1000000) :
    Calls Try.prog 57 #[.pointer (some ⟨d, 0, none⟩)] w fun e w' => e = .returned (.int .i64 (s.count.1 : Nat)) ∧ Dk w' d F N s.count.2 ∧ Fr F w w' := by
  obtain ⟨mo, Z, hz⟩ := h
  have c1 := hz.b.cell 1 _ rfl
  have f1 := hz.b.free 1
  have hw1 : wrap64 ((s.ops : Int) + 1) = (s.ops : Int) + 1 := by rw [← IntWalk.i64_left, IntKind.wrap_i64]; omega
  obtain ⟨W, hW⟩ : ∃ W, W = w.setCell ⟨d, 1, none⟩ (.int .i64 ((s.ops : Int) + 1)) := ⟨_, rfl⟩
  have hzW : DkZ W d F N s.tick mo Z := by
    rw [hW]
    exact hz.box s.tick (by have := hz.b.set 1 (.int .i64 ((s.ops : Int) + 1)); exact this) (fun i hi => Below.heap_setCell _ _ _ _ hi) (by simp) rfl (by show s.ops + 1 ≤ 1000000; omega)
  have HF : Hid (Fr F w W) := by apply hide; rw [hW]; exact setd_fr hz
  have c3 : W.cell? ⟨d, 3, none⟩ = some (.bool s.set) := hzW.b.cell 3 _ rfl
  have c4 : W.cell? ⟨d, 4, none⟩ = some (.int .i64 s.op) := hzW.b.cell 4 _ rfl
  have c5 : W.cell? ⟨d, 5, none⟩ = some (.int .i64 s.part) := hzW.b.cell 5 _ rfl
  have kC := cut_any W d N F s.tick s.part ⟨mo, Z, hzW⟩
  have HD : Hid (Dk W d F N s.tick) := ⟨mo, Z, hzW⟩
  obtain ⟨n, hn⟩ : ∃ n, n = s.ops := ⟨_, rfl⟩
  obtain ⟨b, hb⟩ : ∃ b, b = s.set := ⟨_, rfl⟩
  obtain ⟨o, ho⟩ : ∃ o, o = s.op := ⟨_, rfl⟩
  obtain ⟨p, hp⟩ : ∃ p, p = s.part := ⟨_, rfl⟩
  have HS : Hid (n = s.ops ∧ b = s.set ∧ o = s.op ∧ p = s.part) := ⟨hn, hb, ho, hp⟩
  rw [show (#[Value.map mo, .int .i64 (s.ops : Int), .bool s.off, .bool s.set, .int .i64 s.op, .int .i64 s.part] : Array Value)[1] = .int .i64 (n : Int) by rw [hn]; rfl] at c1
  rw [← hn] at hw1 hW hop
  rw [← hb] at c3
  rw [← ho] at c4
  rw [← hp] at c5 kC
  have HW : Hid (W = _) := hW
  clear hz hzW hW hn hb ho hp
  have hno : s.count = if s.set = true ∧ (s.ops : Int) = s.op then (122, s.tick.cut s.part) else (0, s.tick) := rfl
  rw [← HS.out.1, ← HS.out.2.1, ← HS.out.2.2.1, ← HS.out.2.2.2] at hno
  cases b
  case false =>
    have HN : Hid (s.count = (0, s.tick)) := by apply hide; rw [hno]; simp
    clear hno
    go_enter Try.func57, Try.ntmps57
    go_upto_region 3 with fail
    rw [← HW.out]
    go_wp2_with fail
    go_ret
    rw [HN.out]
    exact ⟨rfl, HD.out, HF.out⟩
  case true =>
    by_cases he : (n : Int) = o
    · have HN : Hid (s.count = (122, s.tick.cut p)) := by apply hide; rw [hno, if_pos ⟨rfl, he⟩]
      clear hno
      subst he
      go_enter Try.func57, Try.ntmps57
      go_upto_region 3 with fail
      rw [← HW.out]
      go_wp2_with fail
      refine kC.mono ?_
      rintro e w2 ⟨rfl, hd2, hf2⟩
      have H2 : Hid _ := And.intro hd2 hf2
      clear hd2 hf2 kC
      go_wp2_with fail
      go_ret
      rw [HN.out]
      exact ⟨rfl, H2.out.1, HF.out.trans H2.out.2 fun _ _ h => h⟩
    · have HN : Hid (s.count = (0, s.tick)) := by apply hide; rw [hno, if_neg (fun h => he h.2)]
      have he2 : ((n : Int) == o) = false := by simpa using he
      clear hno
      go_enter Try.func57, Try.ntmps57
      go_upto_region 3 with fail
      rw [← HW.out]
      go_wp2_with fail
      go_ret
      rw [HN.out]
      exact ⟨rfl, HD.out, HF.out⟩
set_option maxHeartbeats 800000 in
theorem begins_any (w : World) (d N base : Nat) (F : Nat → Prop) (s : St) (t : Str) (v : Value) (ns : List Str) (h : Dk w d F N s) (hv : w.ownsRow base 9 1 v ns.length (sv ns)) (hb : base ≤ w.heap.size) (hF : ∀ r, v.ownBlock = some r → ¬ F r) (hn : ns.length ≤ 10) (hl : ∀ t ∈ ns, t.length ≤ maxLen) (ht : t.length ≤ maxLen) (hop : s.ops < 1000000) :
    Calls Try.prog 60 #[.pointer (some ⟨d, 0, none⟩), .string ⟨t.toArray⟩, v] w fun e w' => e = .returned (.int .i64 ((s.begins t ns).1 : Nat)) ∧ Dk w' d F N (s.begins t ns).2 ∧ Fr (fun i => F i ∨ v.ownBlock = some i) w w' := by
  have kR := refusesFile_any w d N base F s t v ns h hv hb hF hn hl ht
  have HD : Hid (Dk w d F N s) := h
  have HF : Hid _ := hF
  clear h hv hF hl ht
  go_enter Try.func60, Try.ntmps60
  go_wp2_with fail
  refine kR.mono ?_
  rintro e w1 ⟨rfl, g1⟩
  have hd1 : Dk w1 d F N s := by
    obtain ⟨mo, Z, hz⟩ := HD.out
    exact ⟨mo, Z, hz.frame g1.size fun i hi => g1.block i (hz.lt i hi) fun e => HF.out i e.symm hi⟩
  have kC := count_any w1 d N F s hd1 hop
  have HD1 : Hid (Dk w1 d F N s) := hd1
  have HG1 : Hid (Fr (fun i => F i ∨ v.ownBlock = some i) w w1) := Fr.of_grown g1 fun j hj => .inl (.inr hj)
  obtain ⟨c, hc⟩ : ∃ c, c = rfF s t ns := ⟨_, rfl⟩
  rw [← hc]
  have HC : Hid (c = rfF s t ns) := hc
  clear hd1 g1 kR hc
  by_cases h0 : c = 0
  · subst h0
    have HB : Hid (s.begins t ns = s.count) := by apply hide; unfold St.begins; rw [← HC.out]; rfl
    go_wp2_with fail
    refine kC.mono ?_
    rintro e w2 ⟨rfl, hd2, hf2⟩
    have H2 : Hid _ := And.intro hd2 hf2
    clear hd2 hf2 kC
    go_wp2_with fail
    go_ret
    rw [HB.out]
    exact ⟨rfl, H2.out.1, HG1.out.trans H2.out.2 fun _ _ h => .inl h⟩
  · have HB : Hid (s.begins t ns = (c, s)) := by apply hide; unfold St.begins; rw [← HC.out, if_pos h0]
    have hE2 : ((c : Int) == 0) = false := by simpa using h0
    have hE3 : ((c : Int) != 0) = true := by simp [bne, hE2]
    go_wp2_with fail
    go_ret
    rw [HB.out]
    exact ⟨rfl, HD1.out, HG1.out⟩
end Go.Proofs.Ythegdhbmfojdaaa
