/- The map of sets, changed: a set is stored anew, put in, taken out. No walk stands here. -/
import Derived.Test.YtgbmigfamefenaaIsJ
namespace Go.Proofs.Ytgbmigfamefenaa
open Go.Shelf Go.RowKit Go.Maps Go.Sort
set_option linter.unusedVariables false

theorem own_tight {w : World} {m n : Nat} {D : DataW Unit} (h : w.ownsMap Try.prog 55 sel m n D) : w.ownsMap Try.prog 55 sel m (Maps.size D) D := by
  obtain ⟨es, clock, h1, h2, h3, rfl⟩ := h
  exact ⟨es, clock, h1, h2, by simp [Maps.size, length_sorted], rfl⟩
theorem kl_ne {a b : K3} (ha : B3 a) (hb : B3 b) (h : a ≠ b) : kl a ≠ kl b := fun e => h (kl_inj ha hb e)
theorem any_filterK {Z : List En} {t s : K3} : (Z.filter fun e => !(e.k == t)).any (fun e => e.k == s) = (Z.any (fun e => e.k == s) && !(s == t)) := by
  rw [Bool.eq_iff_iff]
  simp only [List.any_eq_true, List.mem_filter, Bool.and_eq_true, Bool.not_eq_true', beq_eq_false_iff_ne, beq_iff_eq, ne_eq]
  constructor
  · rintro ⟨x, ⟨h1, h2⟩, rfl⟩
    exact ⟨⟨x, h1, rfl⟩, h2⟩
  · rintro ⟨⟨x, h1, rfl⟩, h2⟩
    exact ⟨x, ⟨h1, h2⟩, rfl⟩
theorem filter_lenK {Z : List En} (hZ : Z.Pairwise Apart) (t : K3) : (Z.filter fun e => !(e.k == t)).length + (if Z.any (fun e => e.k == t) then 1 else 0) = Z.length := by
  induction Z with
  | nil => simp
  | cons z Z ih =>
    obtain ⟨h1, h2⟩ := List.pairwise_cons.1 hZ
    have ih := ih h2
    by_cases h : z.k = t
    · subst h
      have hn : Z.any (fun e => e.k == z.k) = false := by
        rw [List.any_eq_false]
        intro x hx
        simp
        exact (h1 x hx).1.symm
      rw [hn] at ih
      simp at ih ⊢
      exact ih
    · simp [h]
      simp at ih
      by_cases hx : (∃ x, x ∈ Z ∧ x.k = t)
      · rw [if_pos hx] at ih ⊢
        omega
      · rw [if_neg hx] at ih ⊢
        omega
theorem MD.del {D : DataW Unit} {Z : List En} (h : MD D Z) (hD : Tidy D) (hZ : Z.Pairwise Apart) (hB : ∀ x ∈ Z, B3 x.k) (t : K3) (ht : B3 t) : MD (D.del (kl t)) (Z.filter fun e => !(e.k == t)) := by
  refine ⟨fun e he z => ?_, fun s hs3 => ?_, ?_⟩
  · obtain ⟨h1, h2⟩ := List.mem_filter.1 he
    have hne : e.k ≠ t := by simpa using h2
    rw [atKey_del_other (kl_ne (hB e h1) ht hne)]
    exact h.at' e h1 z
  · rw [any_filterK]
    by_cases hs : s = t
    · subst hs
      rw [has_del_same]
      simp
    · rw [has_del_other (kl_ne hs3 ht hs), h.has s hs3]
      simp [hs]
  · have h1 := size_del hD (k := kl t)
    have h2 := filter_lenK hZ t
    rw [h.has t ht, h.size] at h1
    omega
theorem any_set {Z : List En} {e' : En} {s : K3} : (Z.map fun x => if x.k = e'.k then e' else x).any (fun e => e.k == s) = Z.any (fun e => e.k == s) := by
  rw [List.any_map]
  congr 1
  funext x
  simp only [Function.comp]
  split
  · rename_i q; rw [q]
  · rfl
theorem MD.set {D : DataW Unit} {Z : List En} (h : MD D Z) (hD : Tidy D) (hB : ∀ x ∈ Z, B3 x.k) {e : En} (he : e ∈ Z) (e' : En) (hk : e'.k = e.k) : MD (D.put (kl e'.k) (eD e')) (Z.map fun x => if x.k = e'.k then e' else x) := by
  have hb : B3 e'.k := by rw [hk]; exact hB e he
  have hkey : WideAt.IsKeyLit (kl e'.k) := kl_key _ hb
  refine ⟨fun x hx z => ?_, fun s hs3 => ?_, ?_⟩
  · obtain ⟨y, hy, rfl⟩ := List.mem_map.1 hx
    by_cases q : y.k = e'.k
    · rw [if_pos q]
      exact atKey_put_same hD.isMap hkey _ _
    · rw [if_neg q, atKey_put_other (kl_ne (hB y hy) hb q)]
      exact h.at' y hy z
  · rw [any_set]
    by_cases hs : s = e'.k
    · subst hs
      rw [has_put_same hD.isMap hkey]
      symm
      rw [List.any_eq_true]
      exact ⟨e, he, by simp [hk]⟩
    · rw [has_put_other (kl_ne hs3 hb hs), h.has s hs3]
  · have h1 := size_put hD (k := kl e'.k) (eD e')
    rw [h.has e'.k hb, h.size, List.any_eq_true.2 ⟨e, he, by simp [hk]⟩] at h1
    rw [List.length_map]
    simpa using h1
theorem MD.new {D : DataW Unit} {Z : List En} (h : MD D Z) (hD : Tidy D) (hB : ∀ x ∈ Z, B3 x.k) (e' : En) (hb : B3 e'.k) (hn : ∀ x ∈ Z, x.k ≠ e'.k) : MD (D.put (kl e'.k) (eD e')) (Z ++ [e']) := by
  have hkey : WideAt.IsKeyLit (kl e'.k) := kl_key _ hb
  refine ⟨fun x hx z => ?_, fun s hs3 => ?_, ?_⟩
  · rcases List.mem_append.1 hx with hx | hx
    · rw [atKey_put_other (kl_ne (hB x hx) hb (hn x hx))]
      exact h.at' x hx z
    · simp at hx
      subst hx
      exact atKey_put_same hD.isMap hkey _ _
  · rw [List.any_append]
    by_cases hs : s = e'.k
    · subst hs
      rw [has_put_same hD.isMap hkey]
      simp
    · rw [has_put_other (kl_ne hs3 hb hs), h.has s hs3]
      have : (e'.k == s) = false := beq_eq_false_iff_ne.2 (Ne.symm hs)
      simp [this]
  · have h1 := size_put hD (k := kl e'.k) (eD e')
    have h0 : Z.any (fun x => x.k == e'.k) = false := by
      rw [List.any_eq_false]
      intro x hx
      simpa using hn x hx
    rw [h.has e'.k hb, h.size, h0] at h1
    rw [List.length_append]
    simpa using h1
/-- A row's block holds ints. -/
theorem own_ints {w : World} {v : Value} {l : List Int} (h : OwI w v l) {r : Nat} (hr : v.ownBlock = some r) : ∃ cur, w.heap[r]? = some (.cells cur 3 (0, 0)) := by
  rcases h.cases with ⟨rfl, _⟩ | ⟨g, cap, cur, h1⟩
  · cases hr
  · have := h1.v
    subst this
    simp only [Value.ownBlock, Option.some.injEq] at hr
    subst hr
    exact ⟨_, h1.blk⟩
theorem int_ne_tl : (3 : TypeId) ≠ 63 := by decide
theorem map_block {w : World} {m n : Nat} {D : DataW Unit} (h : w.ownsMap Try.prog 55 sel m n D) : ∃ es clock, w.heap[m]? = some (.map es clock) := by
  obtain ⟨es, clock, h1, _⟩ := h
  exact ⟨es, clock, h1⟩
/-- What a call on a timeline leaves: its blocks are the elder ones and new ones, and no other block changed. -/
structure Tw (w w' : World) (t : Nat) (F : Nat → Prop) (s' : List Es) (F' : Nat → Prop) : Prop where
  tl : Tl w' t F' s'
  up : ∀ i, F i → F' i
  dn : ∀ i, F' i → F i ∨ w.heap.size ≤ i
  fr : Fr F w w'
theorem Tw.same {w w' : World} {t : Nat} {F : Nat → Prop} {s : List Es} (h : Tl w t F s) (hb : Below w.heap.size w w') : Tw w w' t F s F := ⟨h.below hb, fun _ h => h, fun _ h => .inl h, Fr.of_below hb⟩
/-- A set's row was written, and the set stored. -/
theorem tl_set {w w1 w' : World} {t m n : Nat} {F : Nat → Prop} {s : List Es} {Z : List En} (h : TlZ w t F s (some m) Z) {e : En} (he : e ∈ Z) {v' : Value} {ps' : List Int}
    (hg : w.grownBy w1 e.v.ownBlock) (ho : OwI w1 v' ps') (hb : ∀ r, v'.ownBlock = some r → e.v.ownBlock = some r ∨ w.heap.size ≤ r)
    {D : DataW Unit} (hown : w.ownsMap Try.prog 55 sel m Z.length D) (hmd : MD D Z)
    (hown' : w'.ownsMap Try.prog 55 sel m n (D.put (kl e.k) (sD e.core v'))) (hg' : w1.grownBy w' (some m)) : Tw w w' t F (updE s e.k ps') (fun i => F i ∨ v'.ownBlock = some i) := by
  have hB : ∀ x ∈ Z, B3 x.k := fun x hx => (h.e x hx).b3
  have oe := h.e e he
  have hm2 := MD.set hmd (hown.tidy law) hB he ⟨e.k, e.core, v', ps'⟩ rfl
  obtain ⟨es, clock, hmb⟩ := map_block hown
  have hmlt : m < w.heap.size := (Array.getElem?_eq_some_iff.1 hmb).1
  have hem : e.v.ownBlock ≠ some m := fun q => by
    obtain ⟨cur, hc⟩ := own_ints oe.o q
    rw [hmb] at hc; cases hc
  have hmb1 : w1.heap[m]? = some (.map es clock) := (hg.block m hmlt (fun q => hem q.symm)).trans hmb
  have hv'm : v'.ownBlock ≠ some m := fun q => by
    obtain ⟨cur, hc⟩ := own_ints ho q
    rw [hmb1] at hc; cases hc
  have het : e.v.ownBlock ≠ some t := fun q => by
    obtain ⟨cur, hc⟩ := own_ints oe.o q
    have := h.b
    unfold BxA at this
    rw [this] at hc
    simp only [Option.some.injEq, Obj.cells.injEq] at hc
    exact int_ne_tl hc.2.1.symm
  have htm : t ≠ m := fun q => by
    have := h.b
    unfold BxA at this
    rw [q, hmb] at this; cases this
  have hblk : ∀ i, i < w.heap.size → e.v.ownBlock ≠ some i → i ≠ m → w'.heap[i]? = w.heap[i]? := fun i hi h1 h2 => (hg'.block i (Nat.lt_of_lt_of_le hi hg.size) (fun q => h2 (by simpa using q))).trans (hg.block i hi (fun q => h1 q.symm))
  have htlt : t < w.heap.size := h.lt t h.f
  have hsz := Nat.le_trans hg.size hg'.size
  refine ⟨⟨some m, Z.map (fun x => if x.k = e.k then ⟨e.k, e.core, v', ps'⟩ else x), ?_, .inl h.f, ?_, (fun m' q => .inl (h.fm m' q)), (fun x hx => ?_), ?_, ?_, (fun i hi => ?_)⟩, fun i hi => .inl hi, fun i hi => ?_, ?_⟩
  · have := h.b
    unfold BxA at this ⊢
    rw [hblk t htlt het htm]
    exact this
  · refine .inr ⟨m, _, rfl, ?_, hm2⟩
    have h1 := own_tight hown'
    have h2 : size (D.put (kl e.k) (sD e.core v')) = _ := hm2.size
    rw [h2] at h1
    exact h1
  · obtain ⟨y, hy, rfl⟩ := List.mem_map.1 hx
    split
    · refine ⟨?_, fun r hr => .inr hr, oe.b3⟩
      refine owns_block ho fun r hr => ?_
      obtain ⟨cur, hc⟩ := own_ints ho hr
      exact hg'.block r (Array.getElem?_eq_some_iff.1 hc).1 (fun q => hv'm (by rw [hr, q]))
    · rename_i q
      have oy := h.e y hy
      have hap := (apart_mem h.ap hy he).resolve_left (fun e1 => q (by rw [e1]))
      refine ⟨owns_block oy.o fun r hr => ?_, fun r hr => .inl (oy.fv r hr), oy.b3⟩
      obtain ⟨cur, hc⟩ := own_ints oy.o hr
      refine hblk r (Array.getElem?_eq_some_iff.1 hc).1 (fun q => hap.2 r hr q) (fun q => ?_)
      rw [q, hmb] at hc; cases hc
  · rw [List.pairwise_map]
    refine List.Pairwise.imp_of_mem (R := Apart) ?_ h.ap
    intro a b ha hb2 hab
    by_cases qa : a.k = e.k
    · have hae : a = e := (apart_mem h.ap ha he).resolve_right (fun q => q.1 qa)
      rw [if_pos qa, if_neg (fun q => hab.1 (qa.trans q.symm))]
      refine ⟨fun q => hab.1 (qa.trans q), fun r hr hr2 => ?_⟩
      rcases hb r hr with q | q
      · rw [hae] at hab
        exact hab.2 r q hr2
      · have := own_lt (h.e b hb2).o r hr2; omega
    · rw [if_neg qa]
      by_cases qb : b.k = e.k
      · have hbe : b = e := (apart_mem h.ap hb2 he).resolve_right (fun q => q.1 qb)
        rw [if_pos qb]
        refine ⟨fun q => qa q, fun r hr hr2 => ?_⟩
        rcases hb r hr2 with q | q
        · rw [hbe] at hab
          exact hab.2 r hr q
        · have := own_lt (h.e a ha).o r hr; omega
      · rw [if_neg qb]
        exact hab
  · unfold updE
    rw [← h.fs, List.map_map, List.map_map]
    refine List.map_congr_left fun x hx => ?_
    simp only [Function.comp, En.es]
    split
    · rename_i q
      have hxe : x = e := (apart_mem h.ap hx he).resolve_right (fun a => a.1 q)
      simp [hxe]
    · rename_i q
      simp [q]
  · rcases hi with hi | hi
    · have := h.lt i hi; omega
    · obtain ⟨cur, hc⟩ := own_ints ho hi
      exact Nat.lt_of_lt_of_le (Array.getElem?_eq_some_iff.1 hc).1 hg'.size
  · rcases hi with hi | hi
    · exact .inl hi
    · rcases hb i hi with q | q
      · exact .inl (oe.fv i q)
      · exact .inr q
  · refine (Fr.of_grown (F := F) hg fun j hj => .inl (oe.fv j hj)).trans (Fr.of_grown (F := F) hg' fun j hj => .inl ?_) fun _ _ h => h
    rw [← Option.some.inj hj]
    exact h.fm m rfl
/-- A new set is stored. -/
theorem tl_new {w w1 w' : World} {t m n : Nat} {F : Nat → Prop} {s : List Es} {Z : List En} (h : TlZ w t F s (some m) Z) {k : K3} {core : Int} (hk : ∀ x ∈ Z, x.k ≠ k) (hb3 : B3 k) {v' : Value} {ps' : List Int}
    (hg : Below w.heap.size w w1) (ho : OwI w1 v' ps') (hb : ∀ r, v'.ownBlock = some r → w.heap.size ≤ r)
    {D : DataW Unit} (hown : w.ownsMap Try.prog 55 sel m Z.length D) (hmd : MD D Z)
    (hown' : w'.ownsMap Try.prog 55 sel m n (D.put (kl k) (sD core v'))) (hg' : w1.grownBy w' (some m)) : Tw w w' t F (s ++ [(k, core, ps')]) (fun i => F i ∨ v'.ownBlock = some i) := by
  have hB : ∀ x ∈ Z, B3 x.k := fun x hx => (h.e x hx).b3
  have hm2 := MD.new hmd (hown.tidy law) hB ⟨k, core, v', ps'⟩ hb3 hk
  obtain ⟨es, clock, hmb⟩ := map_block hown
  have hmlt : m < w.heap.size := (Array.getElem?_eq_some_iff.1 hmb).1
  have htm : t ≠ m := fun q => by
    have := h.b
    unfold BxA at this
    rw [q, hmb] at this; cases this
  have hblk : ∀ i, i < w.heap.size → i ≠ m → w'.heap[i]? = w.heap[i]? := fun i hi h2 => (hg'.block i (Nat.lt_of_lt_of_le hi hg.size) (fun q => h2 (by simpa using q))).trans (hg.block i hi)
  have htlt : t < w.heap.size := h.lt t h.f
  have hsz := Nat.le_trans hg.size hg'.size
  refine ⟨⟨some m, Z ++ [⟨k, core, v', ps'⟩], ?_, .inl h.f, ?_, (fun m' q => .inl (h.fm m' q)), (fun x hx => ?_), ?_, ?_, (fun i hi => ?_)⟩, fun i hi => .inl hi, fun i hi => ?_, ?_⟩
  · have := h.b
    unfold BxA at this ⊢
    rw [hblk t htlt htm]
    exact this
  · refine .inr ⟨m, _, rfl, ?_, hm2⟩
    have h1 := own_tight hown'
    have h2 : size (D.put (kl k) (sD core v')) = _ := hm2.size
    rw [h2] at h1
    exact h1
  · rcases List.mem_append.1 hx with hx | hx
    · have oy := h.e x hx
      refine ⟨owns_block oy.o fun r hr => ?_, fun r hr => .inl (oy.fv r hr), oy.b3⟩
      obtain ⟨cur, hc⟩ := own_ints oy.o hr
      refine hblk r (Array.getElem?_eq_some_iff.1 hc).1 (fun q => ?_)
      rw [q, hmb] at hc; cases hc
    · simp at hx
      subst hx
      refine ⟨?_, fun r hr => .inr hr, hb3⟩
      refine owns_block ho fun r hr => ?_
      obtain ⟨cur, hc⟩ := own_ints ho hr
      refine hg'.block r (Array.getElem?_eq_some_iff.1 hc).1 (fun q => ?_)
      have := hb r hr
      simp at q
      omega
  · refine List.pairwise_append.2 ⟨h.ap, List.pairwise_singleton .., fun a ha b hb2 => ?_⟩
    simp at hb2
    subst hb2
    refine ⟨hk a ha, fun r hr hr2 => ?_⟩
    have h1 := own_lt (h.e a ha).o r hr
    have h2 := hb r hr2
    omega
  · rw [List.map_append, h.fs]
    rfl
  · rcases hi with hi | hi
    · have := h.lt i hi; omega
    · obtain ⟨cur, hc⟩ := own_ints ho hi
      exact Nat.lt_of_lt_of_le (Array.getElem?_eq_some_iff.1 hc).1 hg'.size
  · rcases hi with hi | hi
    · exact .inl hi
    · exact .inr (hb i hi)
  · refine (Fr.of_below (F := F) hg).trans (Fr.of_grown (F := F) hg' fun j hj => .inl ?_) fun _ _ h => h
    rw [← Option.some.inj hj]
    exact h.fm m rfl
/-- A set is taken out. -/
theorem tl_del {w w1 w' : World} {t m n : Nat} {F : Nat → Prop} {s : List Es} {Z : List En} (h : TlZ w t F s (some m) Z) {e : En} (he : e ∈ Z)
    (hg : w.grownBy w1 e.v.ownBlock) {D : DataW Unit} (hown : w.ownsMap Try.prog 55 sel m Z.length D) (hmd : MD D Z)
    (hown' : w'.ownsMap Try.prog 55 sel m n (D.del (kl e.k))) (hg' : w1.grownBy w' (some m)) : Tw w w' t F (s.filter fun x => !decide (x.1 = e.k)) F := by
  have hB : ∀ x ∈ Z, B3 x.k := fun x hx => (h.e x hx).b3
  have oe := h.e e he
  have hm2 := MD.del hmd (hown.tidy law) h.ap hB e.k oe.b3
  obtain ⟨es, clock, hmb⟩ := map_block hown
  have hmlt : m < w.heap.size := (Array.getElem?_eq_some_iff.1 hmb).1
  have het : e.v.ownBlock ≠ some t := fun q => by
    obtain ⟨cur, hc⟩ := own_ints oe.o q
    have := h.b
    unfold BxA at this
    rw [this] at hc
    simp only [Option.some.injEq, Obj.cells.injEq] at hc
    exact int_ne_tl hc.2.1.symm
  have htm : t ≠ m := fun q => by
    have := h.b
    unfold BxA at this
    rw [q, hmb] at this; cases this
  have hblk : ∀ i, i < w.heap.size → e.v.ownBlock ≠ some i → i ≠ m → w'.heap[i]? = w.heap[i]? := fun i hi h1 h2 => (hg'.block i (Nat.lt_of_lt_of_le hi hg.size) (fun q => h2 (by simpa using q))).trans (hg.block i hi (fun q => h1 q.symm))
  have htlt : t < w.heap.size := h.lt t h.f
  have hsz := Nat.le_trans hg.size hg'.size
  have hsub : ∀ x ∈ Z.filter (fun x => !(x.k == e.k)), x ∈ Z ∧ x.k ≠ e.k := fun x hx => by have := List.mem_filter.1 hx; exact ⟨this.1, by simpa using this.2⟩
  refine ⟨⟨some m, Z.filter (fun x => !(x.k == e.k)), ?_, h.f, ?_, h.fm, (fun x hx => ?_), h.ap.filter _, ?_, (fun i hi => Nat.lt_of_lt_of_le (h.lt i hi) hsz)⟩, fun i hi => hi, fun i hi => .inl hi, ?_⟩
  · have := h.b
    unfold BxA at this ⊢
    rw [hblk t htlt het htm]
    exact this
  · refine .inr ⟨m, _, rfl, ?_, hm2⟩
    have h1 := own_tight hown'
    rw [hm2.size] at h1
    exact h1
  · obtain ⟨hx, q⟩ := hsub x hx
    have oy := h.e x hx
    have hap := (apart_mem h.ap hx he).resolve_left (fun e1 => q (by rw [e1]))
    refine ⟨owns_block oy.o fun r hr => ?_, oy.fv, oy.b3⟩
    obtain ⟨cur, hc⟩ := own_ints oy.o hr
    refine hblk r (Array.getElem?_eq_some_iff.1 hc).1 (fun q => hap.2 r hr q) (fun q => ?_)
    rw [q, hmb] at hc; cases hc
  · rw [← h.fs, List.filter_map]
    refine congrArg (List.map En.es) (List.filter_congr fun x _ => ?_)
    rw [Bool.eq_iff_iff]
    show (!(x.k == e.k)) = true ↔ (!decide (x.k = e.k)) = true
    rw [Bool.not_eq_true', Bool.not_eq_true', beq_eq_false_iff_ne, decide_eq_false_iff_not]
  · refine (Fr.of_grown (F := F) hg fun j hj => .inl (oe.fv j hj)).trans (Fr.of_grown (F := F) hg' fun j hj => .inl ?_) fun _ _ h => h
    rw [← Option.some.inj hj]
    exact h.fm m rfl
end Go.Proofs.Ytgbmigfamefenaa
