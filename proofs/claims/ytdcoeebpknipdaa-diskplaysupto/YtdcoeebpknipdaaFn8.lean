/- Contracts: files are opened. -/
import Derived.Test.YtdcoeebpknipdaaFn7
namespace Go.Proofs.Ytdcoeebpknipdaa
open Go.RowKit Go.Maps

theorem own_tight {w : World} {m n : Nat} {D : DataW Unit} (h : w.ownsMap Try.prog 9 pel m n D) : w.ownsMap Try.prog 9 pel m (Maps.size D) D := by
  obtain ⟨es, clock, h1, h2, h3, rfl⟩ := h
  exact ⟨es, clock, h1, h2, by simp [Maps.size, length_sorted], rfl⟩
theorem any_filter {Z : List Ent} {t s : Str} : (Z.filter fun e => !(e.nm == t)).any (fun e => e.nm == s) = (Z.any (fun e => e.nm == s) && !(s == t)) := by
  rw [Bool.eq_iff_iff]
  simp only [List.any_eq_true, List.mem_filter, Bool.and_eq_true, Bool.not_eq_true', beq_eq_false_iff_ne, beq_iff_eq, ne_eq]
  constructor
  · rintro ⟨x, ⟨h1, h2⟩, rfl⟩
    exact ⟨⟨x, h1, rfl⟩, h2⟩
  · rintro ⟨⟨x, h1, rfl⟩, h2⟩
    exact ⟨x, ⟨h1, h2⟩, rfl⟩
theorem lit_ne {s t : Str} (h : s ≠ t) : Lit.string s ≠ .string t := fun e => h (by injection e)
theorem filter_len {Z : List Ent} (hZ : Z.Pairwise Apart) (t : Str) : (Z.filter fun e => !(e.nm == t)).length + (if Z.any (fun e => e.nm == t) then 1 else 0) = Z.length := by
  induction Z with
  | nil => simp
  | cons z Z ih =>
    obtain ⟨h1, h2⟩ := List.pairwise_cons.1 hZ
    have ih := ih h2
    by_cases h : z.nm = t
    · subst h
      have hn : Z.any (fun e => e.nm == z.nm) = false := by
        rw [List.any_eq_false]
        intro x hx
        simp
        exact (h1 x hx).1.symm
      rw [hn] at ih
      simp at ih ⊢
      exact ih
    · simp [h]
      simp at ih
      by_cases hx : (∃ x, x ∈ Z ∧ x.nm = t)
      · rw [if_pos hx] at ih ⊢
        omega
      · rw [if_neg hx] at ih ⊢
        omega
theorem MD.del {D : DataW Unit} {Z : List Ent} (h : MD D Z) (hD : Tidy D) (hZ : Z.Pairwise Apart) (t : Str) : MD (D.del (.string t)) (Z.filter fun e => !(e.nm == t)) := by
  refine ⟨fun e he z => ?_, fun s => ?_, ?_⟩
  · obtain ⟨h1, h2⟩ := List.mem_filter.1 he
    have hne : e.nm ≠ t := by simpa using h2
    rw [atKey_del_other (lit_ne hne)]
    exact h.at' e h1 z
  · rw [any_filter]
    by_cases hs : s = t
    · subst hs
      rw [has_del_same]
      simp
    · rw [has_del_other (lit_ne hs), h.has s]
      simp [hs]
  · have h1 := size_del hD (k := .string t)
    have h2 := filter_len hZ t
    rw [h.has t, h.size] at h1
    omega
theorem MD.add {D : DataW Unit} {Z : List Ent} (h : MD D Z) (hD : Tidy D) (hZ : Z.Pairwise Apart) (e : Ent) : MD (D.put (.string e.nm) (.lit (.int .i64 (e.g : Int)))) ((Z.filter fun x => !(x.nm == e.nm)) ++ [e]) := by
  have hk : WideAt.IsKeyLit (Lit.string e.nm) := trivial
  refine ⟨fun x hx z => ?_, fun s => ?_, ?_⟩
  · rcases List.mem_append.1 hx with hx | hx
    · obtain ⟨h1, h2⟩ := List.mem_filter.1 hx
      have hne : x.nm ≠ e.nm := by simpa using h2
      rw [atKey_put_other (lit_ne hne)]
      exact h.at' x h1 z
    · simp at hx
      subst hx
      exact atKey_put_same hD.isMap hk _ _
  · rw [List.any_append, any_filter]
    by_cases hs : s = e.nm
    · subst hs
      rw [has_put_same hD.isMap hk]
      simp
    · rw [has_put_other (lit_ne hs), h.has s]
      have : ¬ e.nm = s := fun q => hs q.symm
      simp only [List.any_cons, List.any_nil, Bool.or_false]
      rw [show (e.nm == s) = false from beq_eq_false_iff_ne.2 this, show (s == e.nm) = false from beq_eq_false_iff_ne.2 hs]
      simp
  · have h1 := size_put hD (k := .string e.nm) (.lit (.int .i64 (e.g : Int)))
    have h2 := filter_len hZ e.nm
    rw [h.has e.nm, h.size] at h1
    rw [h1, List.length_append]
    simp only [List.length_singleton]
    split
    · rename_i hh
      rw [if_pos hh] at h2
      omega
    · rename_i hh
      rw [if_neg hh] at h2
      omega
/-- The map alone has changed. -/
theorem DkZ.remap {w w' : World} {d N N' m : Nat} {F F' : Nat → Prop} {s : St} {Z : List Ent} (h : DkZ w d F N s (some m) Z) (hF : ∀ i, F i → F' i) (hF' : ∀ i, F' i → i < w'.heap.size) (g : w.grownBy w' (some m)) (Z' : List Ent) (hm : MapZ w' (some m) Z') (he : ∀ x ∈ Z', EOk w F' x) (hap : Z'.Pairwise Apart) (hn : ∀ x ∈ Z', x.bs.length ≤ N') (hnm : ∀ x ∈ Z', x.nm.length ≤ 64) (hfew : Z'.length ≤ 1000) (s' : St) (h1 : s'.ops = s.ops) (h2 : s'.off = s.off) (h3 : s'.set = s.set) (h4 : s'.op = s.op) (h5 : s'.part = s.part) (hf : Z'.map Ent.fl = s'.fs) : DkZ w' d F' N' s' (some m) Z' := by
  obtain ⟨es, clock, hmap⟩ := h.m.cells
  refine ⟨?_, hF _ h.f, hm, fun m' e => hF _ (h.fm m' e), fun x hx => ?_, hap, hf, hn, hnm, hfew, by rw [h1]; exact h.ops, hF'⟩
  · rw [h1, h2, h3, h4, h5]
    have := h.b
    unfold BxA at this ⊢
    rw [g.block d h.b.lt (fun e => h.knd.md e.symm)]
    exact this
  · have o := he x hx
    refine ⟨?_, o.f, owns_block o.o fun r hr => ?_, o.fv, o.le⟩
    · have := o.b
      unfold BxA at this ⊢
      rw [g.block x.g o.b.lt (fun e => by
        simp only [Option.some.injEq] at e
        rw [e, hmap] at this
        cases this)]
      exact this
    · obtain ⟨cur, hc⟩ := owns_cells o.o hr
      refine g.block r (Array.getElem?_eq_some_iff.1 hc).1 fun e => ?_
      simp only [Option.some.injEq] at e
      rw [e, hmap] at hc
      cases hc
theorem DkZ.uniq {w : World} {d N : Nat} {F : Nat → Prop} {s : St} {mo : Option Nat} {Z : List Ent} (h : DkZ w d F N s mo Z) {e : Ent} (he : e ∈ Z) {f : Fl} (hf : f ∈ s.fs) (hn : f.nm = e.nm) : f = e.fl := by
  rw [← h.fs] at hf
  obtain ⟨x, hx, rfl⟩ := List.mem_map.1 hf
  have : x = e := (apart_mem h.ap hx he).resolve_right fun a => a.1 hn
  rw [this]
structure Opn1 (w : World) (d N : Nat) (F : Nat → Prop) (s : St) (t : Str) (ev : Ending) (w' : World) : Prop where
  ex : ∃ (F' : Nat → Prop) (mo : Option Nat) (Z : List Ent) (e : Ent), ev = .returned (.pointer (some ⟨e.g, 0, none⟩)) ∧ DkZ w' d F' N { s with fs := opnF s.fs t } mo Z ∧ e ∈ Z ∧ e.nm = t ∧ (∀ i, F' i → F i ∨ w.heap.size ≤ i) ∧ (∀ i, F i → F' i)
  fr : Fr F w w'
/-- A new file in the map. -/
theorem add_dk {w w' : World} {d N m : Nat} {F : Nat → Prop} {s : St} {Z : List Ent} {t : Str} {D : DataW Unit} (h : DkZ w d F N s (some m) Z) (hh : hasF s.fs t = false) (hroom : Z.length < 1000) (ht : t.length ≤ 64) (hmd : MD D Z) (hD : Tidy D)
    (ho : w'.ownsMap Try.prog 9 pel m (Z.length + 1) (D.put (.string t) (.lit (.int .i64 (w.heap.size : Int))))) (g : (w.alloc (.cells #[.slice none 0 0, .int .i64 0] 75)).grownBy w' (some m)) : DkZ w' d (fun i => F i ∨ i = w.heap.size) N { s with fs := opnF s.fs t } (some m) (Z ++ [⟨t, w.heap.size, .slice none 0 0, [], 0⟩]) := by
  have hz1 := h.below ((Below.refl _ w).alloc (Nat.le_refl _) (.cells #[.slice none 0 0, .int .i64 0] 75))
  have hne : ∀ x ∈ Z, x.nm ≠ t := fun x hx e => by
    rw [h.has t, List.any_eq_false] at hh
    exact hh x hx (by simp [e])
  have hfil : (Z.filter fun x => !(x.nm == t)) = Z := List.filter_eq_self.2 fun x hx => by simp; exact hne x hx
  have hadd := hmd.add hD h.ap ⟨t, w.heap.size, .slice none 0 0, [], 0⟩
  rw [show (Z.filter fun x => !(x.nm == (⟨t, w.heap.size, .slice none 0 0, [], 0⟩ : Ent).nm)) = Z from hfil] at hadd
  have hsz := g.size
  simp at hsz
  refine hz1.remap (fun i hi => .inl hi) (fun i hi => ?_) g _ (.inr ⟨m, _, rfl, ?_, hadd⟩) (fun x hx => ?_) (List.pairwise_append.2 ⟨h.ap, by simp, fun a ha b hb => ?_⟩) (fun x hx => ?_) (fun x hx => ?_) (by simp; omega) _ rfl rfl rfl rfl rfl ?_
  · rcases hi with hi | rfl
    · have := h.lt i hi; omega
    · omega
  · rw [List.length_append]; exact ho
  · rcases List.mem_append.1 hx with hx | hx
    · exact (hz1.e x hx).mono fun i hi => .inl hi
    · simp at hx
      subst hx
      exact ⟨BxA.new _ _ _, .inr rfl, ⟨rfl, .inl ⟨rfl, rfl⟩⟩, (fun r hr => by cases hr), Nat.le_refl _⟩
  · simp at hb
    subst hb
    exact ⟨hne a ha, fun e => by have h1 := h.lt _ (h.e a ha).f; have h2 : a.g = w.heap.size := e; omega, fun r _ hr' => by cases hr'⟩
  · rcases List.mem_append.1 hx with hx | hx
    · exact h.n x hx
    · simp at hx; subst hx; exact Nat.zero_le _
  · rcases List.mem_append.1 hx with hx | hx
    · exact h.nm x hx
    · simp at hx; subst hx; exact ht
  · show _ = opnF s.fs t
    unfold opnF
    rw [hh, List.map_append, h.fs]
    rfl
set_option maxRecDepth 100000 in
set_option maxHeartbeats 1600000 in
theorem open_any (w : World) (d N : Nat) (F : Nat → Prop) (s : St) (t : Str) (h : Dk w d F N s) (ht : t.length ≤ 64) (hroom : hasF s.fs t = true ∨ s.fs.length < 1000) :
    Calls Try.prog 48 #[.pointer (some ⟨d, 0, none⟩), .string ⟨t.toArray⟩] w (Opn1 w d N F s t) := by
  obtain ⟨mo, Z, hz⟩ := h
  have hmm := @run_makeMap Try.prog
  have HRM : Hid _ := hroom
  clear hroom
  cases mo with
  | some m =>
    have HZ : Hid (DkZ w d F N s (some m) Z) := hz
    have HFR : Hid (Fr F w w) := Fr.refl _ _
    clear hz
    have c0x : w.cell? ⟨d, 0, none⟩ = some (.map (some m)) := HZ.out.b.cell 0 _ rfl
    have hfx := HZ.out.b.free 0
    have hnl := run_eql_map_nil (P := Try.prog) w 62 9 70 (some m) Try.underlying62
    go_enter Try.func48, Try.ntmps48
    go_upto_region 3 with fail
    clear c0x hfx hnl
    have kH := has_any w d N F s t ⟨some m, Z, HZ.out⟩ (by unfold maxLen; omega)
    have hroom2 : (hasF s.fs t = false → Z.length < 1000) := fun hq => by
      rcases HRM.out with hr | hr
      · rw [hr] at hq; cases hq
      · rw [← HZ.out.fs, List.length_map] at hr; exact hr
    have HR2 : Hid _ := hroom2
    have c0 : w.cell? ⟨d, 0, none⟩ = some (.map (some m)) := HZ.out.b.cell 0 _ rfl
    obtain ⟨q, hq⟩ : ∃ q, q = hasF s.fs t := ⟨_, rfl⟩
    rw [← hq] at kH
    have HQ : Hid (q = hasF s.fs t) := hq
    clear hq hroom2
    cases q
    case true =>
      obtain ⟨x, hx, hxn⟩ := HZ.out.get HQ.out.symm
      have hl := look_at HZ.out.m hx (by have := HZ.out.nm x hx; unfold maxLen; omega)
      rw [hxn] at hl
      have HX : Hid _ := And.intro hx hxn
      clear hx hxn
      go_wp2_with fail
      refine kH.mono ?_
      rintro e w1 ⟨rfl, rfl⟩
      go_wp2_with fail
      go_ret
      have hop : opnF s.fs t = s.fs := by unfold opnF; rw [← HQ.out]; rfl
      refine ⟨⟨F, some m, Z, x, rfl, ?_, HX.out.1, HX.out.2, (fun i hi => .inl hi), (fun _ hi => hi)⟩, HFR.out⟩
      exact HZ.out.st _ rfl rfl rfl rfl rfl (by rw [hop]; exact HZ.out.fs)
    case false =>
      obtain ⟨m', D, hm', hown, hmd⟩ : ∃ m' D, some m = some m' ∧ w.ownsMap Try.prog 9 pel m' Z.length D ∧ MD D Z := by
        rcases HZ.out.m with ⟨h1, _⟩ | ⟨m', D, h1, h2, h3⟩
        · cases h1
        · exact ⟨m', D, h1, h2, h3⟩
      obtain rfl : m = m' := by simpa using hm'
      have HM : Hid ((w.alloc (.cells #[.slice none 0 0, .int .i64 0] 75)).ownsMap Try.prog 9 pel m Z.length D) := hown.alloc _
      have HMD : Hid (MD D Z) := hmd
      have HTD : Hid (Tidy D) := hown.tidy law
      have hb1 : BxA (w.alloc (.cells #[.slice none 0 0, .int .i64 0] 75)) w.heap.size 75 #[.slice none 0 0, .int .i64 0] := BxA.new _ _ _
      have HB1 : Hid _ := hb1
      clear hown hmd hm' hb1
      go_wp2_with fail
      refine kH.mono ?_
      rintro e w1 ⟨rfl, rfl⟩
      go_wp2_with (first | (at_mapUpdate; refine wpList_mapUpdate_own _ rfl _ _ _ 62 rfl 9 70 law Try.underlying62 pel m Z.length D rfl HM.out (by have := HR2.out HQ.out.symm; unfold maxLen; omega) _ _ (.string t) rfl rfl (key_mk t (by unfold maxLen; omega)) (.lit (.int .i64 (w1.heap.size : Int))) [] rfl ?_; intro w2 hown2 hg2; have hz2 := add_dk HZ.out HQ.out.symm (HR2.out HQ.out.symm) ht HMD.out HTD.out hown2 hg2; have c0' : w2.cell? ⟨d, 0, none⟩ = some (.map (some m)) := hz2.b.cell 0 _ rfl; have hl2 : (Instr.lookup 62 (.map (some m)) (.string ⟨t.toArray⟩) false).run Try.prog w2 = .ok (.pointer (some ⟨w1.heap.size, 0, none⟩)) w2 := look_at hz2.m (e := ⟨t, w1.heap.size, .slice none 0 0, [], 0⟩) (by simp) (by show t.length ≤ _; unfold maxLen; omega); have H2 : Hid _ := And.intro hz2 hg2; clear hz2 hg2 hown2))
      go_wp2_with fail
      go_ret
      obtain ⟨hz2, hg2⟩ := H2.out
      refine ⟨⟨_, some m, _, ⟨t, w1.heap.size, .slice none 0 0, [], 0⟩, rfl, hz2, by simp, rfl, (fun i hi => hi.imp id fun h => by omega), (fun i hi => .inl hi)⟩, ?_⟩
      exact HFR.out.trans (Fr.trans (F := fun i => F i) (Fr.of_below ((Below.refl _ w1).alloc (Nat.le_refl _) _)) (Fr.of_grown (F := fun i => F i) hg2 fun j hj => .inl (by cases hj; exact HZ.out.fm m rfl)) fun _ _ h => h) fun i hi h => h
  | none =>
    obtain ⟨m, hmz⟩ : ∃ m, m = w.heap.size := ⟨_, rfl⟩
    obtain ⟨W, hW⟩ : ∃ W, W = (w.setCell ⟨d, 0, none⟩ (.map (some m))).alloc (.map #[] 0) := ⟨_, rfl⟩
    have hZ0 : Z = [] := by
      rcases hz.m with ⟨_, h1⟩ | ⟨_, _, h1, _⟩
      · exact h1
      · cases h1
    have hzW : DkZ W d (fun i => F i ∨ i = m) N s (some m) Z := by
      subst hZ0
      rw [hW]
      have hlt := hz.b.lt
      refine ⟨?_, .inl hz.f, .inr ⟨m, .map [], rfl, ?_, ⟨(fun _ h => by cases h), (fun _ => rfl), rfl⟩⟩, (fun m' e => .inr (by simpa using e.symm)), (fun _ h => by cases h), .nil, hz.fs, (fun _ h => by cases h), (fun _ h => by cases h), by simp, hz.ops, fun i hi => ?_⟩
      · have := hz.b.set 0 (.map (some m))
        unfold BxA at this ⊢
        rw [Below.heap_alloc _ _ _ (by simp; exact hlt)]
        exact this
      · have := World.ownsMap_made (w.setCell ⟨d, 0, none⟩ (.map (some m))) Try.prog 9 pel
        rw [show (w.setCell ⟨d, 0, none⟩ (.map (some m))).heap.size = m by simp [hmz]] at this
        exact this
      · rcases hi with hi | rfl
        · have := hz.lt i hi; simp; omega
        · simp [hmz]
    have HZ : Hid (DkZ W d (fun i => F i ∨ i = m) N s (some m) Z) := hzW
    have HFR : Hid (Fr F w W) := by
      apply hide
      rw [hW]
      exact (setd_fr (F := F) hz).trans (Fr.of_below (F := F) ((Below.refl _ _).alloc (Nat.le_refl _) _)) fun _ _ h => h
    have HW : Hid (W = _) := hW
    have HMZ : Hid (m = w.heap.size) := hmz
    have hszW : w.heap.size < W.heap.size := by rw [hW]; simp
    have c0x : w.cell? ⟨d, 0, none⟩ = some (.map none) := hz.b.cell 0 _ rfl
    have hfx := hz.b.free 0
    have hltd : d < w.heap.size := hz.b.lt
    have hnl := run_eql_map_nil (P := Try.prog) w 62 9 70 none Try.underlying62
    clear hz hzW hW hZ0 hmz hszW
    go_enter Try.func48, Try.ntmps48
    go_upto_region 3 with fail
    rw [← HMZ.out, ← HW.out]
    clear c0x hfx hnl hltd
    have kH := has_any W d N (fun i => F i ∨ i = m) s t ⟨some m, Z, HZ.out⟩ (by unfold maxLen; omega)
    have hroom2 : (hasF s.fs t = false → Z.length < 1000) := fun hq => by
      rcases HRM.out with hr | hr
      · rw [hr] at hq; cases hq
      · rw [← HZ.out.fs, List.length_map] at hr; exact hr
    have HR2 : Hid _ := hroom2
    have c0 : W.cell? ⟨d, 0, none⟩ = some (.map (some m)) := HZ.out.b.cell 0 _ rfl
    obtain ⟨q, hq⟩ : ∃ q, q = hasF s.fs t := ⟨_, rfl⟩
    rw [← hq] at kH
    have HQ : Hid (q = hasF s.fs t) := hq
    clear hq hroom2
    cases q
    case true =>
      obtain ⟨x, hx, hxn⟩ := HZ.out.get HQ.out.symm
      have hl := look_at HZ.out.m hx (by have := HZ.out.nm x hx; unfold maxLen; omega)
      rw [hxn] at hl
      have HX : Hid _ := And.intro hx hxn
      clear hx hxn
      go_wp2_with fail
      refine kH.mono ?_
      rintro e w1 ⟨rfl, rfl⟩
      go_wp2_with fail
      go_ret
      have hop : opnF s.fs t = s.fs := by unfold opnF; rw [← HQ.out]; rfl
      refine ⟨⟨(fun i => F i ∨ i = m), some m, Z, x, rfl, ?_, HX.out.1, HX.out.2, (fun i hi => hi.imp id fun h => by have := HMZ.out; omega), (fun _ hi => .inl hi)⟩, HFR.out⟩
      exact HZ.out.st _ rfl rfl rfl rfl rfl (by rw [hop]; exact HZ.out.fs)
    case false =>
      obtain ⟨m', D, hm', hown, hmd⟩ : ∃ m' D, some m = some m' ∧ W.ownsMap Try.prog 9 pel m' Z.length D ∧ MD D Z := by
        rcases HZ.out.m with ⟨h1, _⟩ | ⟨m', D, h1, h2, h3⟩
        · cases h1
        · exact ⟨m', D, h1, h2, h3⟩
      obtain rfl : m = m' := by simpa using hm'
      have HM : Hid ((W.alloc (.cells #[.slice none 0 0, .int .i64 0] 75)).ownsMap Try.prog 9 pel m Z.length D) := hown.alloc _
      have HMD : Hid (MD D Z) := hmd
      have HTD : Hid (Tidy D) := hown.tidy law
      have hb1 : BxA (W.alloc (.cells #[.slice none 0 0, .int .i64 0] 75)) W.heap.size 75 #[.slice none 0 0, .int .i64 0] := BxA.new _ _ _
      have HB1 : Hid _ := hb1
      clear hown hmd hm' hb1
      go_wp2_with fail
      refine kH.mono ?_
      rintro e w1 ⟨rfl, rfl⟩
      go_wp2_with (first | (at_mapUpdate; refine wpList_mapUpdate_own _ rfl _ _ _ 62 rfl 9 70 law Try.underlying62 pel m Z.length D rfl HM.out (by have := HR2.out HQ.out.symm; unfold maxLen; omega) _ _ (.string t) rfl rfl (key_mk t (by unfold maxLen; omega)) (.lit (.int .i64 (w1.heap.size : Int))) [] rfl ?_; intro w2 hown2 hg2; have hz2 := add_dk HZ.out HQ.out.symm (HR2.out HQ.out.symm) ht HMD.out HTD.out hown2 hg2; have c0' : w2.cell? ⟨d, 0, none⟩ = some (.map (some m)) := hz2.b.cell 0 _ rfl; have hl2 : (Instr.lookup 62 (.map (some m)) (.string ⟨t.toArray⟩) false).run Try.prog w2 = .ok (.pointer (some ⟨w1.heap.size, 0, none⟩)) w2 := look_at hz2.m (e := ⟨t, w1.heap.size, .slice none 0 0, [], 0⟩) (by simp) (by show t.length ≤ _; unfold maxLen; omega); have H2 : Hid _ := And.intro hz2 hg2; clear hz2 hg2 hown2))
      go_wp2_with fail
      go_ret
      obtain ⟨hz2, hg2⟩ := H2.out
      refine ⟨⟨_, some m, _, ⟨t, w1.heap.size, .slice none 0 0, [], 0⟩, rfl, hz2, by simp, rfl, (fun i hi => hi.elim (fun h => h.elim .inl fun h => .inr (by have := HMZ.out; omega)) fun h => .inr (by have := HFR.out.size; omega)), (fun i hi => .inl (.inl hi))⟩, ?_⟩
      exact HFR.out.trans (Fr.trans (F := fun i => (fun i => F i ∨ i = m) i) (Fr.of_below ((Below.refl _ w1).alloc (Nat.le_refl _) _)) (Fr.of_grown (F := fun i => (fun i => F i ∨ i = m) i) hg2 fun j hj => .inl (by cases hj; exact HZ.out.fm m rfl)) fun _ _ h => h) fun i hi h => h.elim id fun h => absurd hi (by have := HMZ.out; omega)
end Go.Proofs.Ytdcoeebpknipdaa
