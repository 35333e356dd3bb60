/- Contracts: files are opened. -/
import Derived.Test.YthegdhbmfojdaaaFn7
namespace Go.Proofs.Ythegdhbmfojdaaa
open Go.RowKit Go.Maps

theorem own_tight {w : World} {m n : Nat} {D : DataW Unit} (h : w.ownsMap Try.prog 9 pel m n D) : w.ownsMap Try.prog 9 pel m (Maps.size D) D := by
  obtain ⟨es, clock, h1, h2, h3, rfl⟩ := h
  exact ⟨es, clock, h1, h2, by simp [Maps.size, length_sorted], rfl⟩
theorem any_filter {Z : List Ent} {t s : Str} : (Z.filter fun e => !(e.nm == t)).any (fun e => e.nm == s) = (Z.any (fun e => e.nm == s) && !(s == t)) := by
  rw [Bool.eq_iff_iff]
  simp only [List.any_eq_true, List.mem_filter, Bool.and_eq_true, Bool.not_eq_true', beq_eq_false_iff_ne, beq_iff_eq, ne_eq]
  constructor
  · rintro ⟨x, ⟨h1, h2⟩, rfl⟩
    exact ⟨⟨x, h1, rfl⟩, h2⟩
  · rintro ⟨⟨x, h1, rfl⟩, h2⟩
    exact ⟨x, ⟨h1, h2⟩, rfl⟩
theorem lit_ne {s t : Str} (h : s ≠ t) : Lit.string s ≠ .string t := fun e => h (by injection e)
theorem filter_len {Z : List Ent} (hZ : Z.Pairwise Apart) (t : Str) : (Z.filter fun e => !(e.nm == t)).length + (if Z.any (fun e => e.nm == t) then 1 else 0) = Z.length := by
  induction Z with
  | nil => simp
  | cons z Z ih =>
    obtain ⟨h1, h2⟩ := List.pairwise_cons.1 hZ
    have ih := ih h2
    by_cases h : z.nm = t
    · subst h
      have hn : Z.any (fun e => e.nm == z.nm) = false := by
        rw [List.any_eq_false]
        intro x hx
        simp
        exact (h1 x hx).1.symm
      rw [hn] at ih
      simp at ih ⊢
      exact ih
    · simp [h]
      simp at ih
      by_cases hx : (∃ x, x ∈ Z ∧ x.nm = t)
      · rw [if_pos hx] at ih ⊢
        omega
      · rw [if_neg hx] at ih ⊢
        omega
theorem MD.del {D : DataW Unit} {Z : List Ent} (h : MD D Z) (hD : Tidy D) (hZ : Z.Pairwise Apart) (t : Str) : MD (D.del (.string t)) (Z.filter fun e => !(e.nm == t)) := by
  refine ⟨fun e he z => ?_, fun s => ?_, ?_⟩
  · obtain ⟨h1, h2⟩ := List.mem_filter.1 he
    have hne : e.nm ≠ t := by simpa using h2
    rw [atKey_del_other (lit_ne hne)]
    exact h.at' e h1 z
  · rw [any_filter]
    by_cases hs : s = t
    · subst hs
      rw [has_del_same]
      simp
    · rw [has_del_other (lit_ne hs), h.has s]
      simp [hs]
  · have h1 := size_del hD (k := .string t)
    have h2 := filter_len hZ t
    rw [h.has t, h.size] at h1
    omega
theorem MD.add {D : DataW Unit} {Z : List Ent} (h : MD D Z) (hD : Tidy D) (hZ : Z.Pairwise Apart) (e : Ent) : MD (D.put (.string e.nm) (.lit (.int .i64 (e.g : Int)))) ((Z.filter fun x => !(x.nm == e.nm)) ++ [e]) := by
  have hk : WideAt.IsKeyLit (Lit.string e.nm) := trivial
  refine ⟨fun x hx z => ?_, fun s => ?_, ?_⟩
  · rcases List.mem_append.1 hx with hx | hx
    · obtain ⟨h1, h2⟩ := List.mem_filter.1 hx
      have hne : x.nm ≠ e.nm := by simpa using h2
      rw [atKey_put_other (lit_ne hne)]
      exact h.at' x h1 z
    · simp at hx
      subst hx
      exact atKey_put_same hD.isMap hk _ _
  · rw [List.any_append, any_filter]
    by_cases hs : s = e.nm
    · subst hs
      rw [has_put_same hD.isMap hk]
      simp
    · rw [has_put_other (lit_ne hs), h.has s]
      have : ¬ e.nm = s := fun q => hs q.symm
      simp only [List.any_cons, List.any_nil, Bool.or_false]
      rw [show (e.nm == s) = false from beq_eq_false_iff_ne.2 this, show (s == e.nm) = false from beq_eq_false_iff_ne.2 hs]
      simp
  · have h1 := size_put hD (k := .string e.nm) (.lit (.int .i64 (e.g : Int)))
    have h2 := filter_len hZ e.nm
    rw [h.has e.nm, h.size] at h1
    rw [h1, List.length_append]
    simp only [List.length_singleton]
    split
    · rename_i hh
      rw [if_pos hh] at h2
      omega
    · rename_i hh
      rw [if_neg hh] at h2
      omega
/-- The map alone has changed. -/
theorem DkZ.remap {w w' : World} {d N N' m : Nat} {F F' : Nat → Prop} {s : St} {Z : List Ent} (h : DkZ w d F N s (some m) Z) (hF : ∀ i, F i → F' i) (hF' : ∀ i, F' i → i < w'.heap.size) (g : w.grownBy w' (some m)) (Z' : List Ent) (hm : MapZ w' (some m) Z') (he : ∀ x ∈ Z', EOk w F' x) (hap : Z'.Pairwise Apart) (hn : ∀ x ∈ Z', x.bs.length ≤ N') (hnm : ∀ x ∈ Z', x.nm.length ≤ 64) (hfew : Z'.length ≤ 1000) (s' : St) (h1 : s'.ops = s.ops) (h2 : s'.off = s.off) (h3 : s'.set = s.set) (h4 : s'.op = s.op) (h5 : s'.part = s.part) (hf : Z'.map Ent.fl = s'.fs) : DkZ w' d F' N' s' (some m) Z' := by
  obtain ⟨es, clock, hmap⟩ := h.m.cells
  refine ⟨?_, hF _ h.f, hm, fun m' e => hF _ (h.fm m' e), fun x hx => ?_, hap, hf, hn, hnm, hfew, by rw [h1]; exact h.ops, hF'⟩
  · rw [h1, h2, h3, h4, h5]
    have := h.b
    unfold BxA at this ⊢
    rw [g.block d h.b.lt (fun e => h.knd.md e.symm)]
    exact this
  · have o := he x hx
    refine ⟨?_, o.f, owns_block o.o fun r hr => ?_, o.fv, o.le⟩
    · have := o.b
      unfold BxA at this ⊢
      rw [g.block x.g o.b.lt (fun e => by
        simp only [Option.some.injEq] at e
        rw [e, hmap] at this
        cases this)]
      exact this
    · obtain ⟨cur, hc⟩ := owns_cells o.o hr
      refine g.block r (Array.getElem?_eq_some_iff.1 hc).1 fun e => ?_
      simp only [Option.some.injEq] at e
      rw [e, hmap] at hc
      cases hc
theorem DkZ.uniq {w : World} {d N : Nat} {F : Nat → Prop} {s : St} {mo : Option Nat} {Z : List Ent} (h : DkZ w d F N s mo Z) {e : Ent} (he : e ∈ Z) {f : Fl} (hf : f ∈ s.fs) (hn : f.nm = e.nm) : f = e.fl := by
  rw [← h.fs] at hf
  obtain ⟨x, hx, rfl⟩ := List.mem_map.1 hf
  have : x = e := (apart_mem h.ap hx he).resolve_right fun a => a.1 hn
  rw [this]
structure Opn1 (w : World) (d N : Nat) (F : Nat → Prop) (s : St) (t : Str) (ev : Ending) (w' : World) : Prop where
  ex : ∃ (F' : Nat → Prop) (mo : Option Nat) (Z : List Ent) (e : Ent), ev = .returned (.pointer (some ⟨e.g, 0, none⟩)) ∧ DkZ w' d F' N { s with fs := opnF s.fs t } mo Z ∧ e ∈ Z ∧ e.nm = t ∧ (∀ i, F' i → F i ∨ w.heap.size ≤ i) ∧ (∀ i, F i → F' i)
  fr : Fr F w w'
/-- A new file in the map. -/
theorem add_dk {w w' : World} {d N m : Nat} {F : Nat → Prop} {s : St} {Z : List Ent} {t : Str} {D : DataW Unit} (h : DkZ w d F N s (some m) Z) (hh : hasF s.fs t = false) (hroom : Z.length < 1000) (ht : t.length ≤ 64) (hmd : MD D Z) (hD : Tidy D)
    (ho : w'.ownsMap Try.prog 9 pel m (Z.length + 1) (D.put (.string t) (.lit (.int .i64 (w.heap.size : Int))))) (g : (w.alloc (.cells #[.slice none 0 0, .int .i64 0] 89)).grownBy w' (some m)) : DkZ w' d (fun i => F i ∨ i = w.heap.size) N { s with fs := opnF s.fs t } (some m) (Z ++ [⟨t, w.heap.size, .slice none 0 0, [], 0⟩]) := by
  have hz1 := h.below ((Below.refl _ w).alloc (Nat.le_refl _) (.cells #[.slice none 0 0, .int .i64 0] 89))
  have hne : ∀ x ∈ Z, x.nm ≠ t := fun x hx e => by
    rw [h.has t, List.any_eq_false] at hh
    exact hh x hx (by simp [e])
  have hfil : (Z.filter fun x => !(x.nm == t)) = Z := List.filter_eq_self.2 fun x hx => by simp; exact hne x hx
  have hadd := hmd.add hD h.ap ⟨t, w.heap.size, .slice none 0 0, [], 0⟩
  rw [show (Z.filter fun x => !(x.nm == (⟨t, w.heap.size, .slice none 0 0, [], 0⟩ : Ent).nm)) = Z from hfil] at hadd
  have hsz := g.size
  simp at hsz
  refine hz1.remap (fun i hi => .inl hi) (fun i hi => ?_) g _ (.inr ⟨m, _, rfl, ?_, hadd⟩) (fun x hx => ?_) (List.pairwise_append.2 ⟨h.ap, by simp, fun a ha b hb => ?_⟩) (fun x hx => ?_) (fun x hx => ?_) (by simp; omega) _ rfl rfl rfl rfl rfl ?_
  · rcases hi with hi | rfl
    · have := h.lt i hi; omega
    · omega
  · rw [List.length_append]; exact ho
  · rcases List.mem_append.1 hx with hx | hx
    · exact (hz1.e x hx).mono fun i hi => .inl hi
    · simp at hx
      subst hx
      exact ⟨BxA.new _ _ _, .inr rfl, ⟨rfl, .inl ⟨rfl, rfl⟩⟩, (fun r hr => by cases hr), Nat.le_refl _⟩
  · simp at hb
    subst hb
    exact ⟨hne a ha, fun e => by have h1 := h.lt _ (h.e a ha).f; have h2 : a.g = w.heap.size := e; omega, fun r _ hr' => by cases hr'⟩
  · rcases List.mem_append.1 hx with hx | hx
    · exact h.n x hx
    · simp at hx; subst hx; exact Nat.zero_le _
  · rcases List.mem_append.1 hx with hx | hx
    · exact h.nm x hx
    · simp at hx; subst hx; exact ht
  · show _ = opnF s.fs t
    unfold opnF
    rw [hh, List.map_append, h.fs]
    rfl
set_option maxRecDepth 100000 in
set_option maxHeartbeats 1600000 in
theorem open_any (w : World) (d N : Nat) (F : Nat → Prop) (s : St) (t : Str) (h : Dk w d F N s) (ht : t.length ≤ 64) (hroom : hasF s.fs t = true ∨ s.fs.length < 1000) :
    Calls Try.prog 55 #[.pointer (some ⟨d, 0, none⟩), .string ⟨t.toArray⟩] w (Opn1 w d N F s t) := by
  obtain ⟨mo, Z, hz⟩ := h
  have hmm := @run_makeMap Try.prog
  have HRM : Hid _ := hroom
  clear hroom
  cases mo with
  | some m =>
    have HZ : Hid (DkZ w d F N s (some m) Z) := hz
    have HFR : Hid (Fr F w w) := Fr.refl _ _
    clear hz
    have c0x : w.cell? ⟨d, 0, none⟩ = some (.map (some m)) := HZ.out.b.cell 0 _ rfl
    have hfx := HZ.out.b.free 0
    have hnl := run_eql_map_nil (P := Try.prog) w 65 9 90 (some m) Try.underlying65
    go_enter Try.func55, Try.ntmps55
    go_upto_region 3 with fail
    clear c0x hfx hnl
    have kH := has_any w d N F s t ⟨some m, Z, HZ.out⟩ (by unfold maxLen; omega)
    have hroom2 : (hasF s.fs t = false → Z.length < 1000) := fun hq => by
      rcases HRM.out with hr | hr
      · rw [hr] at hq; cases hq
      · rw [← HZ.out.fs, List.length_map] at hr; exact hr
    have HR2 : Hid _ := hroom2
    have c0 : w.cell? ⟨d, 0, none⟩ = some (.map (some m)) := HZ.out.b.cell 0 _ rfl
    obtain ⟨q, hq⟩ : ∃ q, q = hasF s.fs t := ⟨_, rfl⟩
    rw [← hq] at kH
    have HQ : Hid (q = hasF s.fs t) := hq
    clear hq hroom2
    cases q
    case true =>
      obtain ⟨x, hx, hxn⟩ := HZ.out.get HQ.out.symm
      have hl := look_at HZ.out.m hx (by have := HZ.out.nm x hx; unfold maxLen; omega)
      rw [hxn] at hl
      have HX : Hid _ := And.intro hx hxn
      clear hx hxn
      go_wp2_with fail
      refine kH.mono ?_
      rintro e w1 ⟨rfl, rfl⟩
      go_wp2_with fail
      go_ret
      have hop : opnF s.fs t = s.fs := by unfold opnF; rw [← HQ.out]; rfl
      refine ⟨⟨F, some m, Z, x, rfl, ?_, HX.out.1, HX.out.2, (fun i hi => .inl hi), (fun _ hi => hi)⟩, HFR.out⟩
      exact HZ.out.st _ rfl rfl rfl rfl rfl (by rw [hop]; exact HZ.out.fs)
    case false =>
      obtain ⟨m', D, hm', hown, hmd⟩ : ∃ m' D, some m = some m' ∧ w.ownsMap Try.prog 9 pel m' Z.length D ∧ MD D Z := by
        rcases HZ.out.m with ⟨h1, _⟩ | ⟨m', D, h1, h2, h3⟩
        · cases h1
        · exact ⟨m', D, h1, h2, h3⟩
      obtain rfl : m = m' := by simpa using hm'
      have HM : Hid ((w.alloc (.cells #[.slice none 0 0, .int .i64 0] 89)).ownsMap Try.prog 9 pel m Z.length D) := hown.alloc _
      have HMD : Hid (MD D Z) := hmd
      have HTD : Hid (Tidy D) := hown.tidy law
      have hb1 : BxA (w.alloc (.cells #[.slice none 0 0, .int .i64 0] 89)) w.heap.size 89 #[.slice none 0 0, .int .i64 0] := BxA.new _ _ _
      have HB1 : Hid _ := hb1
      clear hown hmd hm' hb1
      go_wp2_with fail
      refine kH.mono ?_
      rintro e w1 ⟨rfl, rfl⟩
      go_wp2_with (first | (at_mapUpdate; refine wpList_mapUpdate_own _ rfl _ _ _ 65 rfl 9 90 law Try.underlying65 pel m Z.length D rfl HM.out (by have := HR2.out HQ.out.symm; unfold maxLen; omega) _ _ (.string t) rfl rfl (key_mk t (by unfold maxLen; omega)) (.lit (.int .i64 (w1.heap.size : Int))) [] rfl ?_; intro w2 hown2 hg2; have hz2 := add_dk HZ.out HQ.out.symm (HR2.out HQ.out.symm) ht HMD.out HTD.out hown2 hg2; have c0' : w2.cell? ⟨d, 0, none⟩ = some (.map (some m)) := hz2.b.cell 0 _ rfl; have hl2 : (Instr.lookup 65 (.map (some m)) (.string ⟨t.toArray⟩) false).run Try.prog w2 = .ok (.pointer (some ⟨w1.heap.size, 0, none⟩)) w2 := look_at hz2.m (e := ⟨t, w1.heap.size, .slice none 0 0, [], 0⟩) (by simp) (by show t.length ≤ _; unfold maxLen; omega); have H2 : Hid _ := And.intro hz2 hg2; clear hz2 hg2 hown2))
      go_wp2_with fail
      go_ret
      obtain ⟨hz2, hg2⟩ := H2.out
      refine ⟨⟨_, some m, _, ⟨t, w1.heap.size, .slice none 0 0, [], 0⟩, rfl, hz2, by simp, rfl, (fun i hi => hi.imp id fun h => by omega), (fun i hi => .inl hi)⟩, ?_⟩
      exact HFR.out.trans (Fr.trans (F := fun i => F i) (Fr.of_below ((Below.refl _ w1).alloc (Nat.le_refl _) _)) (Fr.of_grown (F := fun i => F i) hg2 fun j hj => .inl (by cases hj; exact HZ.out.fm m rfl)) fun _ _ h => h) fun i hi h => h
  | none =>
    obtain ⟨m, hmz⟩ : ∃ m, m = w.heap.size := ⟨_, rfl⟩
    obtain ⟨W, hW⟩ : ∃ W, W = (w.setCell ⟨d, 0, none⟩ (.map (some m))).alloc (.map #[] 0) := ⟨_, rfl⟩
    have hZ0 : Z = [] := by
      rcases hz.m with ⟨_, h1⟩ | ⟨_, _, h1, _⟩
      · exact h1
      · cases h1
    have hzW : DkZ W d (fun i => F i ∨ i = m) N s (some m) Z := by
      subst hZ0
      rw [hW]
      have hlt := hz.b.lt
      refine ⟨?_, .inl hz.f, .inr ⟨m, .map [], rfl, ?_, ⟨(fun _ h => by cases h), (fun _ => rfl), rfl⟩⟩, (fun m' e => .inr (by simpa using e.symm)), (fun _ h => by cases h), .nil, hz.fs, (fun _ h => by cases h), (fun _ h => by cases h), by simp, hz.ops, fun i hi => ?_⟩
      · have := hz.b.set 0 (.map (some m))
        unfold BxA at this ⊢
        rw [Below.heap_alloc _ _ _ (by simp; exact hlt)]
        exact this
      · have := World.ownsMap_made (w.setCell ⟨d, 0, none⟩ (.map (some m))) Try.prog 9 pel
        rw [show (w.setCell ⟨d, 0, none⟩ (.map (some m))).heap.size = m by simp [hmz]] at this
        exact this
      · rcases hi with hi | rfl
        · have := hz.lt i hi; simp; omega
        · simp [hmz]
    have HZ : Hid (DkZ W d (fun i => F i ∨ i = m) N s (some m) Z) := hzW
    have HFR : Hid (Fr F w W) := by
      apply hide
      rw [hW]
      exact (setd_fr (F := F) hz).trans (Fr.of_below (F := F) ((Below.refl _ _).alloc (Nat.le_refl _) _)) fun _ _ h => h
    have HW : Hid (W = _) := hW
    have HMZ : Hid (m = w.heap.size) := hmz
    have hszW : w.heap.size < W.heap.size := by rw [hW]; simp
    have c0x : w.cell? ⟨d, 0, none⟩ = some (.map none) := hz.b.cell 0 _ rfl
    have hfx := hz.b.free 0
    have hltd : d < w.heap.size := hz.b.lt
    have hnl := run_eql_map_nil (P := Try.prog) w 65 9 90 none Try.underlying65
    clear hz hzW hW hZ0 hmz hszW
    go_enter Try.func55, Try.ntmps55
    go_upto_region 3 with fail
    rw [← HMZ.out, ← HW.out]
    clear c0x hfx hnl hltd
    have kH := has_any W d N (fun i => F i ∨ i = m) s t ⟨some m, Z, HZ.out⟩ (by unfold maxLen; omega)
    have hroom2 : (hasF s.fs t = false → Z.length < 1000) := fun hq => by
      rcases HRM.out with hr | hr
      · rw [hr] at hq; cases hq
      · rw [← HZ.out.fs, List.length_map] at hr; exact hr
    have HR2 : Hid _ := hroom2
    have c0 : W.cell? ⟨d, 0, none⟩ = some (.map (some m)) := HZ.out.b.cell 0 _ rfl
    obtain ⟨q, hq⟩ : ∃ q, q = hasF s.fs t := ⟨_, rfl⟩
    rw [← hq] at kH
    have HQ : Hid (q = hasF s.fs t) := hq
    clear hq hroom2
    cases q
    case true =>
      obtain ⟨x, hx, hxn⟩ := HZ.out.get HQ.out.symm
      have hl := look_at HZ.out.m hx (by have := HZ.out.nm x hx; unfold maxLen; omega)
      rw [hxn] at hl
      have HX : Hid _ := And.intro hx hxn
      clear hx hxn
      go_wp2_with fail
      refine kH.mono ?_
      rintro e w1 ⟨rfl, rfl⟩
      go_wp2_with fail
      go_ret
      have hop : opnF s.fs t = s.fs := by unfold opnF; rw [← HQ.out]; rfl
      refine ⟨⟨(fun i => F i ∨ i = m), some m, Z, x, rfl, ?_, HX.out.1, HX.out.2, (fun i hi => hi.imp id fun h => by have := HMZ.out; omega), (fun _ hi => .inl hi)⟩, HFR.out⟩
      exact HZ.out.st _ rfl rfl rfl rfl rfl (by rw [hop]; exact HZ.out.fs)
    case false =>
      obtain ⟨m', D, hm', hown, hmd⟩ : ∃ m' D, some m = some m' ∧ W.ownsMap Try.prog 9 pel m' Z.length D ∧ MD D Z := by
        rcases HZ.out.m with ⟨h1, _⟩ | ⟨m', D, h1, h2, h3⟩
        · cases h1
        · exact ⟨m', D, h1, h2, h3⟩
      obtain rfl : m = m' := by simpa using hm'
      have HM : Hid ((W.alloc (.cells #[.slice none 0 0, .int .i64 0] 89)).ownsMap Try.prog 9 pel m Z.length D) := hown.alloc _
      have HMD : Hid (MD D Z) := hmd
      have HTD : Hid (Tidy D) := hown.tidy law
      have hb1 : BxA (W.alloc (.cells #[.slice none 0 0, .int .i64 0] 89)) W.heap.size 89 #[.slice none 0 0, .int .i64 0] := BxA.new _ _ _
      have HB1 : Hid _ := hb1
      clear hown hmd hm' hb1
      go_wp2_with fail
      refine kH.mono ?_
      rintro e w1 ⟨rfl, rfl⟩
      go_wp2_with (first | (at_mapUpdate; refine wpList_mapUpdate_own _ rfl _ _ _ 65 rfl 9 90 law Try.underlying65 pel m Z.length D rfl HM.out (by have := HR2.out HQ.out.symm; unfold maxLen; omega) _ _ (.string t) rfl rfl (key_mk t (by unfold maxLen; omega)) (.lit (.int .i64 (w1.heap.size : Int))) [] rfl ?_; intro w2 hown2 hg2; have hz2 := add_dk HZ.out HQ.out.symm (HR2.out HQ.out.symm) ht HMD.out HTD.out hown2 hg2; have c0' : w2.cell? ⟨d, 0, none⟩ = some (.map (some m)) := hz2.b.cell 0 _ rfl; have hl2 : (Instr.lookup 65 (.map (some m)) (.string ⟨t.toArray⟩) false).run Try.prog w2 = .ok (.pointer (some ⟨w1.heap.size, 0, none⟩)) w2 := look_at hz2.m (e := ⟨t, w1.heap.size, .slice none 0 0, [], 0⟩) (by simp) (by show t.length ≤ _; unfold maxLen; omega); have H2 : Hid _ := And.intro hz2 hg2; clear hz2 hg2 hown2))
      go_wp2_with fail
      go_ret
      obtain ⟨hz2, hg2⟩ := H2.out
      refine ⟨⟨_, some m, _, ⟨t, w1.heap.size, .slice none 0 0, [], 0⟩, rfl, hz2, by simp, rfl, (fun i hi => hi.elim (fun h => h.elim .inl fun h => .inr (by have := HMZ.out; omega)) fun h => .inr (by have := HFR.out.size; omega)), (fun i hi => .inl (.inl hi))⟩, ?_⟩
      exact HFR.out.trans (Fr.trans (F := fun i => (fun i => F i ∨ i = m) i) (Fr.of_below ((Below.refl _ w1).alloc (Nat.le_refl _) _)) (Fr.of_grown (F := fun i => (fun i => F i ∨ i = m) i) hg2 fun j hj => .inl (by cases hj; exact HZ.out.fm m rfl)) fun _ _ h => h) fun i hi h => h.elim id fun h => absurd hi (by have := HMZ.out; omega)
end Go.Proofs.Ythegdhbmfojdaaa

namespace Go.Proofs.Ythegdhbmfojdaaa
open Go.RowKit Go.Maps

theorem DkZ.more {w : World} {d N N' : Nat} {F : Nat → Prop} {s : St} {mo : Option Nat} {Z : List Ent} (h : DkZ w d F N s mo Z) (hN : N ≤ N') : DkZ w d F N' s mo Z := ⟨h.b, h.f, h.m, h.fm, h.e, h.ap, h.fs, fun x hx => Nat.le_trans (h.n x hx) hN, h.nm, h.few, h.ops, h.lt⟩
theorem map_one {w : World} {d N : Nat} {F : Nat → Prop} {s : St} {mo : Option Nat} {Z : List Ent} (h : DkZ w d F N s mo Z) {e : Ent} (he : e ∈ Z) (k : Fl → Fl) (e' : Ent) (hk : k e.fl = e'.fl) : (s.fs.map fun f => if f.nm = e.nm then e'.fl else f) = s.fs.map fun f => if f.nm = e.nm then k f else f :=
  List.map_congr_left fun f hf => by
    by_cases hn : f.nm = e.nm
    · rw [if_pos hn, if_pos hn, h.uniq he hf hn, hk]
    · rw [if_neg hn, if_neg hn]
/-- Bytes behind a file of the disk. -/
theorem fadd_dk (w : World) (d N : Nat) (F : Nat → Prop) (s : St) (mo : Option Nat) (Z : List Ent) (e : Ent) (u : Value) (b : Str) (h : DkZ w d F N s mo Z) (he : e ∈ Z) (hr : Reads w u b) (hl : N + b.length ≤ 140737488355328) :
    Calls Try.prog 56 #[.pointer (some ⟨e.g, 0, none⟩), u] w fun ev w' => ev = .returned (.tuple #[]) ∧ (∃ F', Dk w' d F' (N + b.length) { s with fs := addF s.fs e.nm b } ∧ (∀ i, F' i → F i ∨ w.heap.size ≤ i)) ∧ Fr F w w' := by
  have o := h.e e he
  have hN := h.n e he
  refine (fadd_any w e.g e.v u e.sy e.bs b o.b o.o hr (by omega) (h.knd.rg e he e he)).mono ?_
  rintro ev w' ⟨rfl, v', w1, rfl, o1, g1, fr1⟩
  have hb1 : BxA w1 e.g 89 #[e.v, .int .i64 (e.sy : Int)] := by
    have := o.b
    unfold BxA at this ⊢
    rw [g1.block e.g o.b.lt (fun q => h.knd.rg e he e he q.symm)]
    exact this
  have hv' : ∀ r, v'.ownBlock = some r → r < w1.heap.size := fun r hr => (own_lt o1 r hr).2
  have hvF : ∀ r, v'.ownBlock = some r → F r ∨ w.heap.size ≤ r := fun r hr => by
    rcases fr1 with q | ⟨r', q, h2⟩
    · exact .inl (o.fv r (by rw [← q]; exact hr))
    · rw [q] at hr; cases hr; exact .inr h2
  have hvg : v'.ownBlock ≠ some e.g := fun q => by
    obtain ⟨cur, hc⟩ := owns_cells o1 q
    have h2 : w1.heap[e.g]? = _ := hb1
    rw [h2] at hc
    simp only [Option.some.injEq, Obj.cells.injEq] at hc
    exact absurd hc.2.1 (by decide)
  have gs := grown_setCell (w := w1) (R := e.g) (j := 0) (u := v')
  refine ⟨rfl, ⟨fun i => F i ∨ v'.ownBlock = some i, ⟨mo, put1 Z e ⟨e.nm, e.g, v', e.bs ++ b, e.sy⟩, ?_⟩, ?_⟩, ?_⟩
  · refine h.one (e' := ⟨e.nm, e.g, v', e.bs ++ b, e.sy⟩) (F' := fun i => F i ∨ v'.ownBlock = some i) (N' := N + b.length) he rfl rfl ⟨hb1.set 0 v', .inl o.f, owns_block o1 fun r hr => gs.block r (hv' r hr) fun q => hvg (by rw [hr]; exact q), fun r hr => .inr hr, by show e.sy ≤ (e.bs ++ b).length; have := o.le; simp; omega⟩ (fun i hi => .inl hi) (fun i hi => ?_) (fun i hi h1 h2 => ?_) ?_ (by omega) (by simp; omega) _ ?_
    · rcases hi with hi | hi
      · have := h.lt i hi
        have := g1.size
        simp
        omega
      · simpa using hv' i hi
    · rw [gs.block i (Nat.lt_of_lt_of_le (h.lt i hi) g1.size) (fun q => h1 (by simpa using q)), g1.block i (h.lt i hi) (fun q => h2 q.symm)]
    · rcases fr1 with q | ⟨r', q, h2⟩
      · exact .inl q
      · refine .inr fun r hr => ?_
        rw [show (⟨e.nm, e.g, v', e.bs ++ b, e.sy⟩ : Ent).v = v' from rfl, q] at hr
        cases hr
        exact h2
    · have := map_one h he (fun f => ⟨f.nm, f.bs ++ b, f.sy⟩) ⟨e.nm, e.g, v', e.bs ++ b, e.sy⟩ rfl
      rw [this]
      rfl
  · intro i hi
    rcases hi with hi | hi
    · exact .inl hi
    · exact hvF i hi
  · exact (Fr.of_grown (F := F) g1 fun j hj => .inl (o.fv j hj)).trans (Fr.of_grown (F := F) gs fun j hj => .inl (by cases hj; exact o.f)) fun _ _ h => h
theorem rfC_one {s : St} {t : Str} (h : rfC s [t] = 0) : isNm t = true ∧ s.off = false := by
  unfold rfC at h
  by_cases h1 : s.off = true
  · rw [if_pos h1] at h; cases h
  · rw [if_neg h1] at h
    by_cases h2 : [t].all isNm = true
    · exact ⟨by simpa using h2, by simpa using h1⟩
    · rw [if_neg h2] at h; cases h
theorem isNm_len {t : Str} (h : isNm t = true) : t.length ≤ 64 := by
  unfold isNm at h
  simp at h
  omega
theorem opnF_has {fs : List Fl} {t : Str} (h : hasF fs t = false) : opnF fs t = fs ++ [⟨t, [], 0⟩] := by unfold opnF; rw [h]; rfl
set_option maxRecDepth 100000 in
set_option maxHeartbeats 1600000 in
theorem append_any (w : World) (d N : Nat) (F : Nat → Prop) (s : St) (t : Str) (u : Value) (b : Str) (h : Dk w d F N s) (ht : t.length ≤ maxLen) (hr : ∀ w', Fr F w w' → Reads w' u b) (hl : N + b.length ≤ 140737488355328) (hop : s.ops < 1000000) :
    Calls Try.prog 27 #[.pointer (some ⟨d, 0, none⟩), .string ⟨t.toArray⟩, u] w fun ev w' => ev = .returned (.int .i64 ((s.append t b).1 : Nat)) ∧ (∃ F', Dk w' d F' (N + b.length) (s.append t b).2 ∧ (∀ i, F' i → F i ∨ w.heap.size ≤ i)) ∧ Fr F w w' := by
  have HR : Aside (∀ w', Fr F w w' → Reads w' u b) := hr
  obtain ⟨ua, uc, rfl⟩ : ∃ a c, u = .slice a b.length c := by obtain ⟨a, c, e, _⟩ := hr w (Fr.refl _ _); exact ⟨_, _, e⟩
  clear hr
  obtain ⟨W, hW⟩ : ∃ W, W = w.alloc (.cells #[.string ⟨t.toArray⟩] 9) := ⟨_, rfl⟩
  have bW : Below w.heap.size w W := by rw [hW]; exact (Below.refl _ _).alloc (Nat.le_refl _) _
  have hdW : Dk W d F N s := h.below bW
  have hrd : Rds W (.slice (some ⟨w.heap.size, 0, none⟩) 1 1) (sv [t]) := by
    rw [hW]
    exact own_rds (base := w.heap.size) (ns := [t]) (lit_own w [.string ⟨t.toArray⟩] 9 (by simp [maxLen]))
  have kR := refuses_any W d N F s _ [t] hdW hrd (fun x hx => by simp at hx; subst hx; exact ht)
  have HW : Hid (W = _) := hW
  have HB : Hid (Below w.heap.size w W) := bW
  have HDW : Hid (Dk W d F N s) := hdW
  have HD : Hid (Dk w d F N s) := h
  have HT : Hid _ := ht
  clear h ht hW bW hdW hrd
  go_enter Try.func27, Try.ntmps27
  go_wp2_with fail
  rw [← HW.out]
  refine kR.mono ?_
  rintro ev w2 ⟨rfl, b2⟩
  have hd2 := HDW.out.below b2
  have HFr2 : Hid (Fr F w w2) := Fr.of_below (HB.out.trans (b2.mono HB.out.size))
  have HD2 : Hid (Dk w2 d F N s) := hd2
  have kH := has_any w2 d N F s t hd2 HT.out
  obtain ⟨mo, Z, hz⟩ := id hd2
  have c0 : w2.cell? ⟨d, 0, none⟩ = some (.map mo) := hz.b.cell 0 _ rfl
  have hlen := fun ty => len_map hz.m ty
  have HZL : Hid (Z.length = s.fs.length) := by apply hide; rw [← hz.fs]; simp
  obtain ⟨c, hc⟩ : ∃ c, c = rfC s [t] := ⟨_, rfl⟩
  rw [← hc]
  have HC : Hid (c = rfC s [t]) := hc
  clear b2 hd2 hz kR hc
  by_cases h0 : c = 0
  · subst h0
    have HC0 : Hid _ := rfC_one HC.out.symm
    obtain ⟨q, hq⟩ : ∃ q, q = hasF s.fs t := ⟨_, rfl⟩
    rw [← hq] at kH
    have HQ : Hid (q = hasF s.fs t) := hq
    clear hq
    cases q
    case true =>
      go_wp2_with fail
      refine kH.mono ?_
      rintro ev w2' ⟨rfl, rfl⟩
      clear kH
      rename World => w2
      have hop2 : hasF s.fs t = true ∨ s.fs.length < 1000 := .inl HQ.out.symm
      have kO := open_any w2 d N F s t HD2.out (isNm_len HC0.out.1) hop2
      clear hop2
      go_wp2_with fail
      refine kO.mono ?_
      rintro ev w3 ⟨⟨F3, mo3, Z3, x, rfl, hz3, hx, hxn, hF3, hF3'⟩, fr3⟩
      have HF3 : Hid (Fr F w w3) := HFr2.out.trans fr3 fun _ _ h => h
      have kA := fadd_dk w3 d N F3 _ mo3 Z3 x _ b hz3 hx (HR.out w3 HF3.out) hl
      have H3 : Hid ((∀ i, F3 i → F i ∨ w.heap.size ≤ i)) := fun i hi => (hF3 i hi).imp id fun h => Nat.le_trans HFr2.out.size h
      rw [hxn] at kA
      clear kO hz3 hx hxn hF3 hF3' fr3
      go_wp2_with fail
      refine kA.mono ?_
      rintro ev w4 ⟨rfl, ⟨F4, hd4, hF4⟩, fr4⟩
      have kC := count_any w4 d (N + b.length) F4 _ hd4 hop
      have H4 : Hid ((∀ i, F4 i → F i ∨ w.heap.size ≤ i)) := fun i hi => (hF4 i hi).elim (H3.out i) fun h => .inr (Nat.le_trans HF3.out.size h)
      have HF4 : Hid (Fr F w w4) := HF3.out.trans fr4 fun i hi h => (H3.out i h).elim id fun h => absurd hi (by omega)
      clear kA hd4 hF4 fr4
      go_wp2_with fail
      refine kC.mono ?_
      rintro ev w5 ⟨rfl, hd5, fr5⟩
      have H5 : Hid _ := And.intro hd5 fr5
      clear kC hd5 fr5
      go_wp2_with fail
      go_ret
      have hA : s.append t b = St.count { s with fs := addF (opnF s.fs t) t b } := by
        unfold St.append
        rw [← HC.out, ← HQ.out]
        simp
      rw [hA]
      exact ⟨rfl, ⟨F4, H5.out.1, H4.out⟩, HF4.out.trans H5.out.2 fun i hi h => (H4.out i h).elim id fun h => absurd hi (by omega)⟩
    case false =>
      by_cases hL : 1000 ≤ Z.length
      · have hLz : (1000 : Int) ≤ (Z.length : Int) := by omega
        go_wp2_with fail
        refine kH.mono ?_
        rintro ev w2' ⟨rfl, rfl⟩
        clear kH
        go_wp2_with fail
        go_ret
        have hA : s.append t b = (1, s) := by
          unfold St.append
          rw [← HC.out, ← HQ.out]
          have := HZL.out
          simp
          omega
        rw [hA]
        obtain ⟨mo, Z, hz⟩ := HD2.out
        exact ⟨rfl, ⟨F, ⟨mo, Z, hz.more (Nat.le_add_right _ _)⟩, fun i hi => .inl hi⟩, HFr2.out⟩
      · have hLz : ¬ (1000 : Int) ≤ (Z.length : Int) := by omega
        have HLN : Hid (s.fs.length < 1000) := by apply hide; have := HZL.out; omega
        go_wp2_with fail
        refine kH.mono ?_
        rintro ev w2' ⟨rfl, rfl⟩
        clear kH
        rename World => w2
        have hop2 : hasF s.fs t = true ∨ s.fs.length < 1000 := .inr (by have := HLN.out; omega)
        have kO := open_any w2 d N F s t HD2.out (isNm_len HC0.out.1) hop2
        clear hop2
        go_wp2_with fail
        refine kO.mono ?_
        rintro ev w3 ⟨⟨F3, mo3, Z3, x, rfl, hz3, hx, hxn, hF3, hF3'⟩, fr3⟩
        have HF3 : Hid (Fr F w w3) := HFr2.out.trans fr3 fun _ _ h => h
        have kA := fadd_dk w3 d N F3 _ mo3 Z3 x _ b hz3 hx (HR.out w3 HF3.out) hl
        have H3 : Hid ((∀ i, F3 i → F i ∨ w.heap.size ≤ i)) := fun i hi => (hF3 i hi).imp id fun h => Nat.le_trans HFr2.out.size h
        rw [hxn] at kA
        clear kO hz3 hx hxn hF3 hF3' fr3
        go_wp2_with fail
        refine kA.mono ?_
        rintro ev w4 ⟨rfl, ⟨F4, hd4, hF4⟩, fr4⟩
        have kC := count_any w4 d (N + b.length) F4 _ hd4 hop
        have H4 : Hid ((∀ i, F4 i → F i ∨ w.heap.size ≤ i)) := fun i hi => (hF4 i hi).elim (H3.out i) fun h => .inr (Nat.le_trans HF3.out.size h)
        have HF4 : Hid (Fr F w w4) := HF3.out.trans fr4 fun i hi h => (H3.out i h).elim id fun h => absurd hi (by omega)
        clear kA hd4 hF4 fr4
        go_wp2_with fail
        refine kC.mono ?_
        rintro ev w5 ⟨rfl, hd5, fr5⟩
        have H5 : Hid _ := And.intro hd5 fr5
        clear kC hd5 fr5
        go_wp2_with fail
        go_ret
        have hA : s.append t b = St.count { s with fs := addF (opnF s.fs t) t b } := by
          unfold St.append
          rw [← HC.out, ← HQ.out]
          have := HLN.out
          simp
          omega
        rw [hA]
        exact ⟨rfl, ⟨F4, H5.out.1, H4.out⟩, HF4.out.trans H5.out.2 fun i hi h => (H4.out i h).elim id fun h => absurd hi (by omega)⟩
  · have hE2 : ((c : Int) == 0) = false := by simpa using h0
    have hE3 : ((c : Int) != 0) = true := by simp [bne, hE2]
    go_wp2_with fail
    go_ret
    have hA : s.append t b = (c, s) := by
      unfold St.append
      rw [← HC.out, if_pos h0]
    rw [hA]
    obtain ⟨mo, Z, hz⟩ := HD2.out
    exact ⟨rfl, ⟨F, ⟨mo, Z, hz.more (Nat.le_add_right _ _)⟩, fun i hi => .inl hi⟩, HFr2.out⟩
end Go.Proofs.Ythegdhbmfojdaaa

namespace Go.Proofs.Ythegdhbmfojdaaa
open Go.RowKit Go.Maps

theorem rfF_zero {s : St} {t : Str} {ns : List Str} (h : rfF s t ns = 0) : hasF s.fs t = true ∧ isNm t = true ∧ (∀ x ∈ ns, isNm x = true) ∧ s.off = false := by
  unfold rfF at h
  by_cases h1 : rfC s (ns ++ [t]) ≠ 0
  · rw [if_pos h1] at h; exact absurd h h1
  · rw [if_neg h1] at h
    have h2 : hasF s.fs t = true := by
      by_cases h2 : hasF s.fs t = true
      · exact h2
      · rw [if_neg h2] at h; cases h
    have h3 : rfC s (ns ++ [t]) = 0 := Classical.not_not.1 h1
    unfold rfC at h3
    by_cases h4 : s.off = true
    · rw [if_pos h4] at h3; cases h3
    · rw [if_neg h4] at h3
      by_cases h5 : (ns ++ [t]).all isNm = true
      · rw [List.all_eq_true] at h5
        exact ⟨h2, h5 t (by simp), fun x hx => h5 x (by simp [hx]), by simpa using h4⟩
      · rw [if_neg h5] at h3; cases h3
theorem count_fs {s : St} (h : s.count.1 = 0) : s.count.2 = s.tick := by
  unfold St.count at h ⊢
  by_cases h1 : s.set = true ∧ (s.ops : Int) = s.op
  · rw [if_pos h1] at h; cases h
  · rw [if_neg h1]
theorem begins_zero {s : St} {t : Str} {ns : List Str} (h : (s.begins t ns).1 = 0) : (s.begins t ns).2 = s.tick ∧ hasF s.fs t = true ∧ isNm t = true ∧ (∀ x ∈ ns, isNm x = true) ∧ s.off = false := by
  unfold St.begins at h ⊢
  by_cases h1 : rfF s t ns ≠ 0
  · rw [if_pos h1] at h; exact absurd h h1
  · rw [if_neg h1] at h ⊢
    exact ⟨count_fs h, rfF_zero (Classical.not_not.1 h1)⟩
theorem nil_own (w : World) : w.ownsRow w.heap.size 9 1 (.slice none 0 0) ([] : List Str).length (sv []) := ⟨rfl, .inl ⟨rfl, rfl⟩⟩
/-- A file of the disk is synced. -/
theorem fsync_dk (w : World) (d N : Nat) (F : Nat → Prop) (s : St) (mo : Option Nat) (Z : List Ent) (e : Ent) (h : DkZ w d F N s mo Z) (he : e ∈ Z) :
    Calls Try.prog 90 #[.pointer (some ⟨e.g, 0, none⟩)] w fun ev w' => ev = .returned (.tuple #[]) ∧ Dk w' d F N { s with fs := synF s.fs e.nm } ∧ Fr F w w' := by
  have o := h.e e he
  obtain ⟨a, c, hv, h1, h2⟩ := owns_sl o.o
  have hb := o.b
  rw [hv] at hb
  refine (fsync_any w e.g a e.bs.length c e.sy hb).mono ?_
  rintro ev w' ⟨rfl, rfl⟩
  have gs := grown_setCell (w := w) (R := e.g) (j := 1) (u := .int .i64 (e.bs.length : Int))
  refine ⟨rfl, ⟨mo, put1 Z e ⟨e.nm, e.g, e.v, e.bs, e.bs.length⟩, h.one (e' := ⟨e.nm, e.g, e.v, e.bs, e.bs.length⟩) he rfl rfl ⟨o.b.set 1 _, o.f, owns_block o.o fun r hr => gs.block r (h.lt r (o.fv r hr)) fun q => h.knd.rg e he e he (by rw [hr]; exact q), o.fv, Nat.le_refl _⟩ (fun _ h => h) (fun i hi => by simpa using h.lt i hi) (fun i hi hne _ => gs.block i (h.lt i hi) fun q => hne (by simpa using q)) (.inl rfl) (Nat.le_refl _) (h.n e he) _ ?_⟩, Fr.of_grown gs fun j hj => .inl (by cases hj; exact o.f)⟩
  rw [map_one h he (fun f => ⟨f.nm, f.bs, f.bs.length⟩) ⟨e.nm, e.g, e.v, e.bs, e.bs.length⟩ rfl]
  rfl
set_option maxRecDepth 100000 in
set_option maxHeartbeats 1600000 in
theorem sync_any (w : World) (d N : Nat) (F : Nat → Prop) (s : St) (t : Str) (h : Dk w d F N s) (ht : t.length ≤ maxLen) (hop : s.ops < 1000000) :
    Calls Try.prog 78 #[.pointer (some ⟨d, 0, none⟩), .string ⟨t.toArray⟩] w fun ev w' => ev = .returned (.int .i64 ((s.sync t).1 : Nat)) ∧ Dk w' d F N (s.sync t).2 ∧ Fr F w w' := by
  have kB := begins_any w d N w.heap.size F s t (.slice none 0 0) [] h (nil_own w) (Nat.le_refl _) (fun r hr => by cases hr) (by simp) (fun _ h => by cases h) ht hop
  have HT : Hid _ := ht
  clear h ht
  go_enter Try.func78, Try.ntmps78
  go_wp2_with fail
  refine kB.mono ?_
  rintro ev w1 ⟨rfl, hd1, fr1⟩
  have HF1 : Hid (Fr F w w1) := ⟨fr1.os, fr1.tape, fr1.output, fr1.size, fun i hi hn => fr1.block i hi (fun h => h.elim hn fun h => by cases h)⟩
  obtain ⟨c, hc⟩ : ∃ c, c = (s.begins t []).1 := ⟨_, rfl⟩
  rw [← hc]
  have HC : Hid (c = (s.begins t []).1) := hc
  clear kB hc fr1
  by_cases h0 : c = 0
  · subst h0
    obtain ⟨e1, e2, e3, e4, e5⟩ := begins_zero HC.out.symm
    rw [e1] at hd1
    obtain ⟨mo, Z, hz⟩ := hd1
    obtain ⟨x, hx, hxn⟩ := hz.get (t := t) e2
    have c0 : w1.cell? ⟨d, 0, none⟩ = some (.map mo) := hz.b.cell 0 _ rfl
    have hl := look_at hz.m hx (by rw [hxn]; exact HT.out)
    have kS := fsync_dk w1 d N F s.tick mo Z x hz hx
    rw [hxn] at hl kS
    have HE : Hid (s.sync t = (0, { s.tick with fs := synF s.tick.fs t })) := by apply hide; unfold St.sync; rw [if_neg (by rw [← HC.out]; decide), e1]
    clear hz hx hxn e1 e2 e3 e4 e5
    go_wp2_with fail
    refine kS.mono ?_
    rintro ev w2 ⟨rfl, hd2, fr2⟩
    have H2 : Hid _ := And.intro hd2 fr2
    clear kS hd2 fr2
    go_wp2_with fail
    go_ret
    rw [HE.out]
    exact ⟨rfl, H2.out.1, HF1.out.trans H2.out.2 fun _ _ h => h⟩
  · have hE2 : ((c : Int) == 0) = false := by simpa using h0
    have hE3 : ((c : Int) != 0) = true := by simp [bne, hE2]
    have HD1 : Hid _ := hd1
    clear hd1
    go_wp2_with fail
    go_ret
    have hA : s.sync t = s.begins t [] := by unfold St.sync; rw [if_pos (by rw [← HC.out]; exact h0)]
    rw [hA]
    exact ⟨by rw [← HC.out]; rfl, HD1.out, HF1.out⟩
/-- A file is taken out of the map. -/
theorem del_dk {w w' : World} {d N m : Nat} {F : Nat → Prop} {s : St} {Z : List Ent} (h : DkZ w d F N s (some m) Z) (t : Str) (n : Nat) (D : DataW Unit) (hmd : MD D Z) (hD : Tidy D) (ho : w'.ownsMap Try.prog 9 pel m n (D.del (.string t))) (g : w.grownBy w' (some m)) : DkZ w' d F N { s with fs := delF s.fs t } (some m) (Z.filter fun e => !(e.nm == t)) := by
  have hm := hmd.del hD h.ap t
  have hsub : ∀ x ∈ Z.filter (fun e => !(e.nm == t)), x ∈ Z := fun x hx => (List.mem_filter.1 hx).1
  refine h.remap (fun _ h => h) (fun i hi => Nat.lt_of_lt_of_le (h.lt i hi) g.size) g _ (.inr ⟨m, _, rfl, ?_, hm⟩) (fun x hx => h.e x (hsub x hx)) (h.ap.filter _) (fun x hx => h.n x (hsub x hx)) (fun x hx => h.nm x (hsub x hx)) (Nat.le_trans (List.length_filter_le _ _) h.few) _ rfl rfl rfl rfl rfl ?_
  · have := own_tight ho
    rw [hm.size] at this
    exact this
  · show _ = delF s.fs t
    unfold delF
    rw [← h.fs, List.filter_map]
    rfl
theorem mo_some {w : World} {mo : Option Nat} {Z : List Ent} {x : Ent} (h : MapZ w mo Z) (hx : x ∈ Z) : ∃ m D, mo = some m ∧ w.ownsMap Try.prog 9 pel m Z.length D ∧ MD D Z := by
  rcases h with ⟨_, rfl⟩ | h
  · cases hx
  · exact h
set_option maxRecDepth 100000 in
set_option maxHeartbeats 1600000 in
theorem remove_any (w : World) (d N : Nat) (F : Nat → Prop) (s : St) (t : Str) (h : Dk w d F N s) (ht : t.length ≤ maxLen) (hop : s.ops < 1000000) :
    Calls Try.prog 32 #[.pointer (some ⟨d, 0, none⟩), .string ⟨t.toArray⟩] w fun ev w' => ev = .returned (.int .i64 ((s.remove t).1 : Nat)) ∧ Dk w' d F N (s.remove t).2 ∧ Fr F w w' := by
  have kB := begins_any w d N w.heap.size F s t (.slice none 0 0) [] h (nil_own w) (Nat.le_refl _) (fun r hr => by cases hr) (by simp) (fun _ h => by cases h) ht hop
  have HT : Hid _ := ht
  clear h ht
  go_enter Try.func32, Try.ntmps32
  go_wp2_with fail
  refine kB.mono ?_
  rintro ev w1 ⟨rfl, hd1, fr1⟩
  have HF1 : Hid (Fr F w w1) := ⟨fr1.os, fr1.tape, fr1.output, fr1.size, fun i hi hn => fr1.block i hi (fun h => h.elim hn fun h => by cases h)⟩
  obtain ⟨c, hc⟩ : ∃ c, c = (s.begins t []).1 := ⟨_, rfl⟩
  rw [← hc]
  have HC : Hid (c = (s.begins t []).1) := hc
  clear kB hc fr1
  by_cases h0 : c = 0
  · subst h0
    obtain ⟨e1, e2, e3, e4, e5⟩ := begins_zero HC.out.symm
    rw [e1] at hd1
    obtain ⟨mo, Z, hz⟩ := hd1
    obtain ⟨x, hx, hxn⟩ := hz.get (t := t) e2
    have c0 : w1.cell? ⟨d, 0, none⟩ = some (.map mo) := hz.b.cell 0 _ rfl
    have hl := look_at hz.m hx (by rw [hxn]; exact HT.out)
    obtain ⟨m, D, rfl, hown, hmd⟩ := mo_some hz.m hx
    have HE : Hid (s.remove t = (0, { s.tick with fs := delF s.tick.fs t })) := by apply hide; unfold St.remove; rw [if_neg (by rw [← HC.out]; decide), e1]
    have HZ : Hid _ := hz
    have HM : Hid (w1.ownsMap Try.prog 9 pel m Z.length D) := hown
    have HTD : Hid (Tidy D) := hown.tidy law
    have HMD : Hid _ := hmd
    clear hz hx hxn e1 e2 e3 e4 e5 hl hown hmd
    go_wp2_with (first | (at_delete; refine wpList_delete_own _ rfl _ _ 65 9 rfl 90 law Try.underlying65 pel m Z.length D rfl HM.out _ _ rfl (key_mk t HT.out) ?_; intro w2 hown2 hg2; have H2 : Hid (DkZ w2 d F N { s.tick with fs := delF s.tick.fs t } (some m) (Z.filter fun e => !(e.nm == t)) ∧ Fr F w1 w2) := ⟨del_dk HZ.out t _ D HMD.out HTD.out hown2 hg2.grown, Fr.of_grown hg2.grown fun j hj => .inl (by cases hj; exact HZ.out.fm m rfl)⟩; clear hown2 hg2))
    go_wp2_with fail
    go_ret
    rw [HE.out]
    exact ⟨rfl, ⟨some m, _, H2.out.1⟩, HF1.out.trans H2.out.2 fun _ _ h => h⟩
  · have hE2 : ((c : Int) == 0) = false := by simpa using h0
    have hE3 : ((c : Int) != 0) = true := by simp [bne, hE2]
    have HD1 : Hid _ := hd1
    clear hd1
    go_wp2_with fail
    go_ret
    have hA : s.remove t = s.begins t [] := by unfold St.remove; rw [if_pos (by rw [← HC.out]; exact h0)]
    rw [hA]
    exact ⟨by rw [← HC.out]; rfl, HD1.out, HF1.out⟩
/-- A file has another name. -/
theorem mov_dk {w w' : World} {d N m : Nat} {F : Nat → Prop} {s : St} {Z : List Ent} {x : Ent} (h : DkZ w d F N s (some m) Z) (hx : x ∈ Z) (b : Str) (hb : b.length ≤ 64) (n : Nat) (D : DataW Unit) (hmd : MD D (Z.filter fun e => !(e.nm == x.nm))) (hD : Tidy D)
    (ho : w'.ownsMap Try.prog 9 pel m n (D.put (.string b) (.lit (.int .i64 (x.g : Int))))) (g : w.grownBy w' (some m)) : DkZ w' d F N { s with fs := movF s.fs x.nm b } (some m) (((Z.filter fun e => !(e.nm == x.nm)).filter fun e => !(e.nm == b)) ++ [⟨b, x.g, x.v, x.bs, x.sy⟩]) := by
  have hm := hmd.add hD (h.ap.filter _) ⟨b, x.g, x.v, x.bs, x.sy⟩
  have hsub : ∀ y ∈ (Z.filter fun e => !(e.nm == x.nm)).filter (fun e => !(e.nm == b)), y ∈ Z ∧ y.nm ≠ x.nm ∧ y.nm ≠ b := fun y hy => by
    obtain ⟨h1, h2⟩ := List.mem_filter.1 hy
    obtain ⟨h3, h4⟩ := List.mem_filter.1 h1
    exact ⟨h3, by simpa using h4, by simpa using h2⟩
  have hlen := filter_len (Z := Z) h.ap x.nm
  have hany : Z.any (fun e => e.nm == x.nm) = true := List.any_eq_true.2 ⟨x, hx, by simp⟩
  rw [if_pos hany] at hlen
  have hfew := h.few
  have hle := List.length_filter_le (fun e : Ent => !(e.nm == b)) (Z.filter fun e => !(e.nm == x.nm))
  refine h.remap (fun _ h => h) (fun i hi => Nat.lt_of_lt_of_le (h.lt i hi) g.size) g _ (.inr ⟨m, _, rfl, ?_, hm⟩) (fun y hy => ?_) (List.pairwise_append.2 ⟨(h.ap.filter _).filter _, by simp, fun y hy z hz => ?_⟩) (fun y hy => ?_) (fun y hy => ?_) (by rw [List.length_append]; simp only [List.length_singleton]; omega) _ rfl rfl rfl rfl rfl ?_
  · have := own_tight ho
    rw [hm.size] at this
    exact this
  · rcases List.mem_append.1 hy with hy | hy
    · exact h.e y (hsub y hy).1
    · simp at hy
      subst hy
      have o := h.e x hx
      exact ⟨o.b, o.f, o.o, o.fv, o.le⟩
  · simp at hz
    subst hz
    obtain ⟨h1, h2, h3⟩ := hsub y hy
    have a := (apart_mem h.ap h1 hx).resolve_left fun q => h2 (by rw [q])
    exact ⟨h3, a.2⟩
  · rcases List.mem_append.1 hy with hy | hy
    · exact h.n y (hsub y hy).1
    · simp at hy
      subst hy
      exact h.n x hx
  · rcases List.mem_append.1 hy with hy | hy
    · exact h.nm y (hsub y hy).1
    · simp at hy
      subst hy
      exact hb
  · show _ = movF s.fs x.nm b
    unfold movF delF gotF
    rw [List.map_append, ← h.fs, List.filter_map, List.filter_map, List.filter_map, List.map_map]
    have hg : (Z.filter ((fun f : Fl => f.nm == x.nm) ∘ Ent.fl)) = [x] := by
      have h1 : ∀ Z : List Ent, Z.Pairwise Apart → x ∈ Z → Z.filter (fun e => e.nm == x.nm) = [x] := by
        intro Z
        induction Z with
        | nil => intro _ h; cases h
        | cons z Z ih =>
          intro hp hm
          obtain ⟨p1, p2⟩ := List.pairwise_cons.1 hp
          rcases List.mem_cons.1 hm with rfl | hm
          · rw [List.filter_cons_of_pos (by simp), List.filter_eq_nil_iff.2 fun y hy => by simp; exact (p1 y hy).1.symm]
          · rw [List.filter_cons_of_neg (by simp; exact (p1 x hm).1), ih p2 hm]
      exact h1 Z h.ap hx
    rw [hg]
    rfl
theorem lit1_own (w : World) (t : Str) : (w.alloc (.cells #[.string ⟨t.toArray⟩] 9)).ownsRow w.heap.size 9 1 (.slice (some ⟨w.heap.size, 0, none⟩) 1 1) ([t] : List Str).length (sv [t]) := lit_own w [.string ⟨t.toArray⟩] 9 (by simp [maxLen])
set_option maxRecDepth 100000 in
set_option maxHeartbeats 1600000 in
theorem rename_any (w : World) (d N : Nat) (F : Nat → Prop) (s : St) (t b : Str) (h : Dk w d F N s) (ht : t.length ≤ maxLen) (hb : b.length ≤ maxLen) (hop : s.ops < 1000000) :
    Calls Try.prog 79 #[.pointer (some ⟨d, 0, none⟩), .string ⟨t.toArray⟩, .string ⟨b.toArray⟩] w fun ev w' => ev = .returned (.int .i64 ((s.rename t b).1 : Nat)) ∧ Dk w' d F N (s.rename t b).2 ∧ Fr F w w' := by
  obtain ⟨W, hW⟩ : ∃ W, W = w.alloc (.cells #[.string ⟨b.toArray⟩] 9) := ⟨_, rfl⟩
  have bW : Below w.heap.size w W := by rw [hW]; exact (Below.refl _ _).alloc (Nat.le_refl _) _
  have hdW : Dk W d F N s := h.below bW
  have hlt : ∀ i, F i → i < w.heap.size := by obtain ⟨mo, Z, hz⟩ := h; exact hz.lt
  have kB := begins_any W d N w.heap.size F s t (.slice (some ⟨w.heap.size, 0, none⟩) 1 1) [b] hdW (by rw [hW]; exact lit1_own w b) bW.size (fun r hr hf => by have := hlt r hf; simp only [Value.ownBlock, Option.some.injEq] at hr; omega) (by simp) (fun x hx => by simp at hx; subst hx; exact hb) ht hop
  have HW : Hid (W = _) := hW
  have HB : Hid (Below w.heap.size w W) := bW
  have HT : Hid _ := And.intro ht hb
  clear h ht hb hW bW hdW hlt
  go_enter Try.func79, Try.ntmps79
  go_wp2_with fail
  rw [← HW.out]
  refine kB.mono ?_
  rintro ev w1 ⟨rfl, hd1, fr1⟩
  have HF1 : Hid (Fr F w w1) := (Fr.of_below (F := F) HB.out).trans fr1 fun i hi h => h.elim id fun h => by simp only [Value.ownBlock, Option.some.injEq] at h; omega
  obtain ⟨c, hc⟩ : ∃ c, c = (s.begins t [b]).1 := ⟨_, rfl⟩
  rw [← hc]
  have HC : Hid (c = (s.begins t [b]).1) := hc
  clear kB hc fr1
  by_cases h0 : c = 0
  · subst h0
    obtain ⟨e1, e2, e3, e4, e5⟩ := begins_zero HC.out.symm
    rw [e1] at hd1
    obtain ⟨mo, Z, hz⟩ := hd1
    obtain ⟨x, hx, hxn⟩ := hz.get (t := t) e2
    have hb64 := isNm_len (e4 b (by simp))
    obtain ⟨m, D, rfl, hown, hmd⟩ := mo_some hz.m hx
    have c0 : w1.cell? ⟨d, 0, none⟩ = some (.map (some m)) := hz.b.cell 0 _ rfl
    have hl := look_at hz.m hx (by rw [hxn]; exact HT.out.1)
    rw [hxn] at hl
    have HE : Hid (s.rename t b = (0, { s.tick with fs := movF s.tick.fs t b })) := by apply hide; unfold St.rename; rw [if_neg (by rw [← HC.out]; decide), e1]
    have HZ : Hid (DkZ w1 d F N s.tick (some m) Z) := hz
    have HM : Hid (w1.ownsMap Try.prog 9 pel m Z.length D) := hown
    have HTD : Hid (Tidy D) := hown.tidy law
    have HMD : Hid (MD D Z) := hmd
    have HX : Hid (x ∈ Z ∧ x.nm = t) := ⟨hx, hxn⟩
    clear hz hx hxn e1 e2 e3 e4 e5 hown hmd
    go_wp2_with (first | (at_delete; refine wpList_delete_own _ rfl _ _ 65 9 rfl 90 law Try.underlying65 pel m Z.length D rfl HM.out _ _ rfl (key_mk t HT.out.1) ?_; intro w2 hown2 hg2; have hz2 := del_dk HZ.out t _ D HMD.out HTD.out hown2 hg2.grown; have c0' : w2.cell? ⟨d, 0, none⟩ = some (.map (some m)) := hz2.b.cell 0 _ rfl; have H2 : Hid (Fr F w1 w2) := Fr.of_grown hg2.grown fun j hj => .inl (by cases hj; exact HZ.out.fm m rfl); have HM2 : Hid (w2.ownsMap Try.prog 9 pel m Z.length (D.del (.string t))) := hown2; have HT2 : Hid (Tidy (D.del (.string t))) := hown2.tidy law; have HG2 : Hid (w1.grownBy w2 (some m)) := hg2.grown; clear hown2 hg2 hz2) | (at_mapUpdate; refine wpList_mapUpdate_own _ rfl _ _ _ 65 rfl 9 90 law Try.underlying65 pel m Z.length (D.del (.string t)) rfl HM2.out (by have := HZ.out.few; unfold maxLen; omega) _ _ (.string b) rfl rfl (key_mk b HT.out.2) (.lit (.int .i64 (x.g : Int))) [] rfl ?_; intro w3 hown3 hg3; have H3 : Hid (w3.ownsMap Try.prog 9 pel m (Z.length + 1) ((D.del (.string t)).put (.string b) (.lit (.int .i64 (x.g : Int)))) ∧ w2.grownBy w3 (some m)) := ⟨hown3, hg3⟩; clear hown3 hg3))
    go_wp2_with fail
    go_ret
    rw [HE.out]
    have hmdd := HMD.out.del HTD.out HZ.out.ap t
    rw [← HX.out.2] at hmdd
    have hz3 := mov_dk HZ.out HX.out.1 b hb64 _ _ hmdd (by rw [HX.out.2]; exact HT2.out) (by rw [HX.out.2]; exact H3.out.1) (grown_trans HG2.out H3.out.2)
    rw [HX.out.2] at hz3
    exact ⟨rfl, ⟨some m, _, hz3⟩, (HF1.out.trans H2.out fun _ _ h => h).trans (Fr.of_grown (F := F) H3.out.2 fun j hj => .inl (by cases hj; exact HZ.out.fm m rfl)) fun _ _ h => h⟩
  · have hE2 : ((c : Int) == 0) = false := by simpa using h0
    have hE3 : ((c : Int) != 0) = true := by simp [bne, hE2]
    have HD1 : Hid _ := hd1
    clear hd1
    go_wp2_with fail
    go_ret
    have hA : s.rename t b = s.begins t [b] := by unfold St.rename; rw [if_pos (by rw [← HC.out]; exact h0)]
    rw [hA]
    exact ⟨by rw [← HC.out]; rfl, HD1.out, HF1.out⟩
end Go.Proofs.Ythegdhbmfojdaaa
