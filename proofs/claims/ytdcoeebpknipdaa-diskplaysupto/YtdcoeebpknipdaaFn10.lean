/- Contracts: Sync, Remove, Rename, Read. -/
import Derived.Test.YtdcoeebpknipdaaFn9
namespace Go.Proofs.Ytdcoeebpknipdaa
open Go.RowKit Go.Maps

theorem rfF_zero {s : St} {t : Str} {ns : List Str} (h : rfF s t ns = 0) : hasF s.fs t = true ∧ isNm t = true ∧ (∀ x ∈ ns, isNm x = true) ∧ s.off = false := by
  unfold rfF at h
  by_cases h1 : rfC s (ns ++ [t]) ≠ 0
  · rw [if_pos h1] at h; exact absurd h h1
  · rw [if_neg h1] at h
    have h2 : hasF s.fs t = true := by
      by_cases h2 : hasF s.fs t = true
      · exact h2
      · rw [if_neg h2] at h; cases h
    have h3 : rfC s (ns ++ [t]) = 0 := Classical.not_not.1 h1
    unfold rfC at h3
    by_cases h4 : s.off = true
    · rw [if_pos h4] at h3; cases h3
    · rw [if_neg h4] at h3
      by_cases h5 : (ns ++ [t]).all isNm = true
      · rw [List.all_eq_true] at h5
        exact ⟨h2, h5 t (by simp), fun x hx => h5 x (by simp [hx]), by simpa using h4⟩
      · rw [if_neg h5] at h3; cases h3
theorem count_fs {s : St} (h : s.count.1 = 0) : s.count.2 = s.tick := by
  unfold St.count at h ⊢
  by_cases h1 : s.set = true ∧ (s.ops : Int) = s.op
  · rw [if_pos h1] at h; cases h
  · rw [if_neg h1]
theorem begins_zero {s : St} {t : Str} {ns : List Str} (h : (s.begins t ns).1 = 0) : (s.begins t ns).2 = s.tick ∧ hasF s.fs t = true ∧ isNm t = true ∧ (∀ x ∈ ns, isNm x = true) ∧ s.off = false := by
  unfold St.begins at h ⊢
  by_cases h1 : rfF s t ns ≠ 0
  · rw [if_pos h1] at h; exact absurd h h1
  · rw [if_neg h1] at h ⊢
    exact ⟨count_fs h, rfF_zero (Classical.not_not.1 h1)⟩
theorem nil_own (w : World) : w.ownsRow w.heap.size 9 1 (.slice none 0 0) ([] : List Str).length (sv []) := ⟨rfl, .inl ⟨rfl, rfl⟩⟩
/-- A file of the disk is synced. -/
theorem fsync_dk (w : World) (d N : Nat) (F : Nat → Prop) (s : St) (mo : Option Nat) (Z : List Ent) (e : Ent) (h : DkZ w d F N s mo Z) (he : e ∈ Z) :
    Calls Try.prog 52 #[.pointer (some ⟨e.g, 0, none⟩)] w fun ev w' => ev = .returned (.tuple #[]) ∧ Dk w' d F N { s with fs := synF s.fs e.nm } ∧ Fr F w w' := by
  have o := h.e e he
  obtain ⟨a, c, hv, h1, h2⟩ := owns_sl o.o
  have hb := o.b
  rw [hv] at hb
  refine (fsync_any w e.g a e.bs.length c e.sy hb).mono ?_
  rintro ev w' ⟨rfl, rfl⟩
  have gs := grown_setCell (w := w) (R := e.g) (j := 1) (u := .int .i64 (e.bs.length : Int))
  refine ⟨rfl, ⟨mo, put1 Z e ⟨e.nm, e.g, e.v, e.bs, e.bs.length⟩, h.one (e' := ⟨e.nm, e.g, e.v, e.bs, e.bs.length⟩) he rfl rfl ⟨o.b.set 1 _, o.f, owns_block o.o fun r hr => gs.block r (h.lt r (o.fv r hr)) fun q => h.knd.rg e he e he (by rw [hr]; exact q), o.fv, Nat.le_refl _⟩ (fun _ h => h) (fun i hi => by simpa using h.lt i hi) (fun i hi hne _ => gs.block i (h.lt i hi) fun q => hne (by simpa using q)) (.inl rfl) (Nat.le_refl _) (h.n e he) _ ?_⟩, Fr.of_grown gs fun j hj => .inl (by cases hj; exact o.f)⟩
  rw [map_one h he (fun f => ⟨f.nm, f.bs, f.bs.length⟩) ⟨e.nm, e.g, e.v, e.bs, e.bs.length⟩ rfl]
  rfl
set_option maxRecDepth 100000 in
set_option maxHeartbeats 1600000 in
theorem sync_any (w : World) (d N : Nat) (F : Nat → Prop) (s : St) (t : Str) (h : Dk w d F N s) (ht : t.length ≤ maxLen) (hop : s.ops < 1000000) :
    Calls Try.prog 24 #[.pointer (some ⟨d, 0, none⟩), .string ⟨t.toArray⟩] w fun ev w' => ev = .returned (.int .i64 ((s.sync t).1 : Nat)) ∧ Dk w' d F N (s.sync t).2 ∧ Fr F w w' := by
  have kB := begins_any w d N w.heap.size F s t (.slice none 0 0) [] h (nil_own w) (Nat.le_refl _) (fun r hr => by cases hr) (by simp) (fun _ h => by cases h) ht hop
  have HT : Hid _ := ht
  clear h ht
  go_enter Try.func24, Try.ntmps24
  go_wp2_with fail
  refine kB.mono ?_
  rintro ev w1 ⟨rfl, hd1, fr1⟩
  have HF1 : Hid (Fr F w w1) := ⟨fr1.os, fr1.tape, fr1.output, fr1.size, fun i hi hn => fr1.block i hi (fun h => h.elim hn fun h => by cases h)⟩
  obtain ⟨c, hc⟩ : ∃ c, c = (s.begins t []).1 := ⟨_, rfl⟩
  rw [← hc]
  have HC : Hid (c = (s.begins t []).1) := hc
  clear kB hc fr1
  by_cases h0 : c = 0
  · subst h0
    obtain ⟨e1, e2, e3, e4, e5⟩ := begins_zero HC.out.symm
    rw [e1] at hd1
    obtain ⟨mo, Z, hz⟩ := hd1
    obtain ⟨x, hx, hxn⟩ := hz.get (t := t) e2
    have c0 : w1.cell? ⟨d, 0, none⟩ = some (.map mo) := hz.b.cell 0 _ rfl
    have hl := look_at hz.m hx (by rw [hxn]; exact HT.out)
    have kS := fsync_dk w1 d N F s.tick mo Z x hz hx
    rw [hxn] at hl kS
    have HE : Hid (s.sync t = (0, { s.tick with fs := synF s.tick.fs t })) := by apply hide; unfold St.sync; rw [if_neg (by rw [← HC.out]; decide), e1]
    clear hz hx hxn e1 e2 e3 e4 e5
    go_wp2_with fail
    refine kS.mono ?_
    rintro ev w2 ⟨rfl, hd2, fr2⟩
    have H2 : Hid _ := And.intro hd2 fr2
    clear kS hd2 fr2
    go_wp2_with fail
    go_ret
    rw [HE.out]
    exact ⟨rfl, H2.out.1, HF1.out.trans H2.out.2 fun _ _ h => h⟩
  · have hE2 : ((c : Int) == 0) = false := by simpa using h0
    have hE3 : ((c : Int) != 0) = true := by simp [bne, hE2]
    have HD1 : Hid _ := hd1
    clear hd1
    go_wp2_with fail
    go_ret
    have hA : s.sync t = s.begins t [] := by unfold St.sync; rw [if_pos (by rw [← HC.out]; exact h0)]
    rw [hA]
    exact ⟨by rw [← HC.out]; rfl, HD1.out, HF1.out⟩
/-- A file is taken out of the map. -/
theorem del_dk {w w' : World} {d N m : Nat} {F : Nat → Prop} {s : St} {Z : List Ent} (h : DkZ w d F N s (some m) Z) (t : Str) (n : Nat) (D : DataW Unit) (hmd : MD D Z) (hD : Tidy D) (ho : w'.ownsMap Try.prog 9 pel m n (D.del (.string t))) (g : w.grownBy w' (some m)) : DkZ w' d F N { s with fs := delF s.fs t } (some m) (Z.filter fun e => !(e.nm == t)) := by
  have hm := hmd.del hD h.ap t
  have hsub : ∀ x ∈ Z.filter (fun e => !(e.nm == t)), x ∈ Z := fun x hx => (List.mem_filter.1 hx).1
  refine h.remap (fun _ h => h) (fun i hi => Nat.lt_of_lt_of_le (h.lt i hi) g.size) g _ (.inr ⟨m, _, rfl, ?_, hm⟩) (fun x hx => h.e x (hsub x hx)) (h.ap.filter _) (fun x hx => h.n x (hsub x hx)) (fun x hx => h.nm x (hsub x hx)) (Nat.le_trans (List.length_filter_le _ _) h.few) _ rfl rfl rfl rfl rfl ?_
  · have := own_tight ho
    rw [hm.size] at this
    exact this
  · show _ = delF s.fs t
    unfold delF
    rw [← h.fs, List.filter_map]
    rfl
theorem mo_some {w : World} {mo : Option Nat} {Z : List Ent} {x : Ent} (h : MapZ w mo Z) (hx : x ∈ Z) : ∃ m D, mo = some m ∧ w.ownsMap Try.prog 9 pel m Z.length D ∧ MD D Z := by
  rcases h with ⟨_, rfl⟩ | h
  · cases hx
  · exact h
set_option maxRecDepth 100000 in
set_option maxHeartbeats 1600000 in
theorem remove_any (w : World) (d N : Nat) (F : Nat → Prop) (s : St) (t : Str) (h : Dk w d F N s) (ht : t.length ≤ maxLen) (hop : s.ops < 1000000) :
    Calls Try.prog 26 #[.pointer (some ⟨d, 0, none⟩), .string ⟨t.toArray⟩] w fun ev w' => ev = .returned (.int .i64 ((s.remove t).1 : Nat)) ∧ Dk w' d F N (s.remove t).2 ∧ Fr F w w' := by
  have kB := begins_any w d N w.heap.size F s t (.slice none 0 0) [] h (nil_own w) (Nat.le_refl _) (fun r hr => by cases hr) (by simp) (fun _ h => by cases h) ht hop
  have HT : Hid _ := ht
  clear h ht
  go_enter Try.func26, Try.ntmps26
  go_wp2_with fail
  refine kB.mono ?_
  rintro ev w1 ⟨rfl, hd1, fr1⟩
  have HF1 : Hid (Fr F w w1) := ⟨fr1.os, fr1.tape, fr1.output, fr1.size, fun i hi hn => fr1.block i hi (fun h => h.elim hn fun h => by cases h)⟩
  obtain ⟨c, hc⟩ : ∃ c, c = (s.begins t []).1 := ⟨_, rfl⟩
  rw [← hc]
  have HC : Hid (c = (s.begins t []).1) := hc
  clear kB hc fr1
  by_cases h0 : c = 0
  · subst h0
    obtain ⟨e1, e2, e3, e4, e5⟩ := begins_zero HC.out.symm
    rw [e1] at hd1
    obtain ⟨mo, Z, hz⟩ := hd1
    obtain ⟨x, hx, hxn⟩ := hz.get (t := t) e2
    have c0 : w1.cell? ⟨d, 0, none⟩ = some (.map mo) := hz.b.cell 0 _ rfl
    have hl := look_at hz.m hx (by rw [hxn]; exact HT.out)
    obtain ⟨m, D, rfl, hown, hmd⟩ := mo_some hz.m hx
    have HE : Hid (s.remove t = (0, { s.tick with fs := delF s.tick.fs t })) := by apply hide; unfold St.remove; rw [if_neg (by rw [← HC.out]; decide), e1]
    have HZ : Hid _ := hz
    have HM : Hid (w1.ownsMap Try.prog 9 pel m Z.length D) := hown
    have HTD : Hid (Tidy D) := hown.tidy law
    have HMD : Hid _ := hmd
    clear hz hx hxn e1 e2 e3 e4 e5 hl hown hmd
    go_wp2_with (first | (at_delete; refine wpList_delete_own _ rfl _ _ 62 9 rfl 70 law Try.underlying62 pel m Z.length D rfl HM.out _ _ rfl (key_mk t HT.out) ?_; intro w2 hown2 hg2; have H2 : Hid (DkZ w2 d F N { s.tick with fs := delF s.tick.fs t } (some m) (Z.filter fun e => !(e.nm == t)) ∧ Fr F w1 w2) := ⟨del_dk HZ.out t _ D HMD.out HTD.out hown2 hg2.grown, Fr.of_grown hg2.grown fun j hj => .inl (by cases hj; exact HZ.out.fm m rfl)⟩; clear hown2 hg2))
    go_wp2_with fail
    go_ret
    rw [HE.out]
    exact ⟨rfl, ⟨some m, _, H2.out.1⟩, HF1.out.trans H2.out.2 fun _ _ h => h⟩
  · have hE2 : ((c : Int) == 0) = false := by simpa using h0
    have hE3 : ((c : Int) != 0) = true := by simp [bne, hE2]
    have HD1 : Hid _ := hd1
    clear hd1
    go_wp2_with fail
    go_ret
    have hA : s.remove t = s.begins t [] := by unfold St.remove; rw [if_pos (by rw [← HC.out]; exact h0)]
    rw [hA]
    exact ⟨by rw [← HC.out]; rfl, HD1.out, HF1.out⟩
/-- A file has another name. -/
theorem mov_dk {w w' : World} {d N m : Nat} {F : Nat → Prop} {s : St} {Z : List Ent} {x : Ent} (h : DkZ w d F N s (some m) Z) (hx : x ∈ Z) (b : Str) (hb : b.length ≤ 64) (n : Nat) (D : DataW Unit) (hmd : MD D (Z.filter fun e => !(e.nm == x.nm))) (hD : Tidy D)
    (ho : w'.ownsMap Try.prog 9 pel m n (D.put (.string b) (.lit (.int .i64 (x.g : Int))))) (g : w.grownBy w' (some m)) : DkZ w' d F N { s with fs := movF s.fs x.nm b } (some m) (((Z.filter fun e => !(e.nm == x.nm)).filter fun e => !(e.nm == b)) ++ [⟨b, x.g, x.v, x.bs, x.sy⟩]) := by
  have hm := hmd.add hD (h.ap.filter _) ⟨b, x.g, x.v, x.bs, x.sy⟩
  have hsub : ∀ y ∈ (Z.filter fun e => !(e.nm == x.nm)).filter (fun e => !(e.nm == b)), y ∈ Z ∧ y.nm ≠ x.nm ∧ y.nm ≠ b := fun y hy => by
    obtain ⟨h1, h2⟩ := List.mem_filter.1 hy
    obtain ⟨h3, h4⟩ := List.mem_filter.1 h1
    exact ⟨h3, by simpa using h4, by simpa using h2⟩
  have hlen := filter_len (Z := Z) h.ap x.nm
  have hany : Z.any (fun e => e.nm == x.nm) = true := List.any_eq_true.2 ⟨x, hx, by simp⟩
  rw [if_pos hany] at hlen
  have hfew := h.few
  have hle := List.length_filter_le (fun e : Ent => !(e.nm == b)) (Z.filter fun e => !(e.nm == x.nm))
  refine h.remap (fun _ h => h) (fun i hi => Nat.lt_of_lt_of_le (h.lt i hi) g.size) g _ (.inr ⟨m, _, rfl, ?_, hm⟩) (fun y hy => ?_) (List.pairwise_append.2 ⟨(h.ap.filter _).filter _, by simp, fun y hy z hz => ?_⟩) (fun y hy => ?_) (fun y hy => ?_) (by rw [List.length_append]; simp only [List.length_singleton]; omega) _ rfl rfl rfl rfl rfl ?_
  · have := own_tight ho
    rw [hm.size] at this
    exact this
  · rcases List.mem_append.1 hy with hy | hy
    · exact h.e y (hsub y hy).1
    · simp at hy
      subst hy
      have o := h.e x hx
      exact ⟨o.b, o.f, o.o, o.fv, o.le⟩
  · simp at hz
    subst hz
    obtain ⟨h1, h2, h3⟩ := hsub y hy
    have a := (apart_mem h.ap h1 hx).resolve_left fun q => h2 (by rw [q])
    exact ⟨h3, a.2⟩
  · rcases List.mem_append.1 hy with hy | hy
    · exact h.n y (hsub y hy).1
    · simp at hy
      subst hy
      exact h.n x hx
  · rcases List.mem_append.1 hy with hy | hy
    · exact h.nm y (hsub y hy).1
    · simp at hy
      subst hy
      exact hb
  · show _ = movF s.fs x.nm b
    unfold movF delF gotF
    rw [List.map_append, ← h.fs, List.filter_map, List.filter_map, List.filter_map, List.map_map]
    have hg : (Z.filter ((fun f : Fl => f.nm == x.nm) ∘ Ent.fl)) = [x] := by
      have h1 : ∀ Z : List Ent, Z.Pairwise Apart → x ∈ Z → Z.filter (fun e => e.nm == x.nm) = [x] := by
        intro Z
        induction Z with
        | nil => intro _ h; cases h
        | cons z Z ih =>
          intro hp hm
          obtain ⟨p1, p2⟩ := List.pairwise_cons.1 hp
          rcases List.mem_cons.1 hm with rfl | hm
          · rw [List.filter_cons_of_pos (by simp), List.filter_eq_nil_iff.2 fun y hy => by simp; exact (p1 y hy).1.symm]
          · rw [List.filter_cons_of_neg (by simp; exact (p1 x hm).1), ih p2 hm]
      exact h1 Z h.ap hx
    rw [hg]
    rfl
theorem lit1_own (w : World) (t : Str) : (w.alloc (.cells #[.string ⟨t.toArray⟩] 9)).ownsRow w.heap.size 9 1 (.slice (some ⟨w.heap.size, 0, none⟩) 1 1) ([t] : List Str).length (sv [t]) := lit_own w [.string ⟨t.toArray⟩] 9 (by simp [maxLen])
set_option maxRecDepth 100000 in
set_option maxHeartbeats 1600000 in
theorem rename_any (w : World) (d N : Nat) (F : Nat → Prop) (s : St) (t b : Str) (h : Dk w d F N s) (ht : t.length ≤ maxLen) (hb : b.length ≤ maxLen) (hop : s.ops < 1000000) :
    Calls Try.prog 25 #[.pointer (some ⟨d, 0, none⟩), .string ⟨t.toArray⟩, .string ⟨b.toArray⟩] w fun ev w' => ev = .returned (.int .i64 ((s.rename t b).1 : Nat)) ∧ Dk w' d F N (s.rename t b).2 ∧ Fr F w w' := by
  obtain ⟨W, hW⟩ : ∃ W, W = w.alloc (.cells #[.string ⟨b.toArray⟩] 9) := ⟨_, rfl⟩
  have bW : Below w.heap.size w W := by rw [hW]; exact (Below.refl _ _).alloc (Nat.le_refl _) _
  have hdW : Dk W d F N s := h.below bW
  have hlt : ∀ i, F i → i < w.heap.size := by obtain ⟨mo, Z, hz⟩ := h; exact hz.lt
  have kB := begins_any W d N w.heap.size F s t (.slice (some ⟨w.heap.size, 0, none⟩) 1 1) [b] hdW (by rw [hW]; exact lit1_own w b) bW.size (fun r hr hf => by have := hlt r hf; simp only [Value.ownBlock, Option.some.injEq] at hr; omega) (by simp) (fun x hx => by simp at hx; subst hx; exact hb) ht hop
  have HW : Hid (W = _) := hW
  have HB : Hid (Below w.heap.size w W) := bW
  have HT : Hid _ := And.intro ht hb
  clear h ht hb hW bW hdW hlt
  go_enter Try.func25, Try.ntmps25
  go_wp2_with fail
  rw [← HW.out]
  refine kB.mono ?_
  rintro ev w1 ⟨rfl, hd1, fr1⟩
  have HF1 : Hid (Fr F w w1) := (Fr.of_below (F := F) HB.out).trans fr1 fun i hi h => h.elim id fun h => by simp only [Value.ownBlock, Option.some.injEq] at h; omega
  obtain ⟨c, hc⟩ : ∃ c, c = (s.begins t [b]).1 := ⟨_, rfl⟩
  rw [← hc]
  have HC : Hid (c = (s.begins t [b]).1) := hc
  clear kB hc fr1
  by_cases h0 : c = 0
  · subst h0
    obtain ⟨e1, e2, e3, e4, e5⟩ := begins_zero HC.out.symm
    rw [e1] at hd1
    obtain ⟨mo, Z, hz⟩ := hd1
    obtain ⟨x, hx, hxn⟩ := hz.get (t := t) e2
    have hb64 := isNm_len (e4 b (by simp))
    obtain ⟨m, D, rfl, hown, hmd⟩ := mo_some hz.m hx
    have c0 : w1.cell? ⟨d, 0, none⟩ = some (.map (some m)) := hz.b.cell 0 _ rfl
    have hl := look_at hz.m hx (by rw [hxn]; exact HT.out.1)
    rw [hxn] at hl
    have HE : Hid (s.rename t b = (0, { s.tick with fs := movF s.tick.fs t b })) := by apply hide; unfold St.rename; rw [if_neg (by rw [← HC.out]; decide), e1]
    have HZ : Hid (DkZ w1 d F N s.tick (some m) Z) := hz
    have HM : Hid (w1.ownsMap Try.prog 9 pel m Z.length D) := hown
    have HTD : Hid (Tidy D) := hown.tidy law
    have HMD : Hid (MD D Z) := hmd
    have HX : Hid (x ∈ Z ∧ x.nm = t) := ⟨hx, hxn⟩
    clear hz hx hxn e1 e2 e3 e4 e5 hown hmd
    go_wp2_with (first | (at_delete; refine wpList_delete_own _ rfl _ _ 62 9 rfl 70 law Try.underlying62 pel m Z.length D rfl HM.out _ _ rfl (key_mk t HT.out.1) ?_; intro w2 hown2 hg2; have hz2 := del_dk HZ.out t _ D HMD.out HTD.out hown2 hg2.grown; have c0' : w2.cell? ⟨d, 0, none⟩ = some (.map (some m)) := hz2.b.cell 0 _ rfl; have H2 : Hid (Fr F w1 w2) := Fr.of_grown hg2.grown fun j hj => .inl (by cases hj; exact HZ.out.fm m rfl); have HM2 : Hid (w2.ownsMap Try.prog 9 pel m Z.length (D.del (.string t))) := hown2; have HT2 : Hid (Tidy (D.del (.string t))) := hown2.tidy law; have HG2 : Hid (w1.grownBy w2 (some m)) := hg2.grown; clear hown2 hg2 hz2) | (at_mapUpdate; refine wpList_mapUpdate_own _ rfl _ _ _ 62 rfl 9 70 law Try.underlying62 pel m Z.length (D.del (.string t)) rfl HM2.out (by have := HZ.out.few; unfold maxLen; omega) _ _ (.string b) rfl rfl (key_mk b HT.out.2) (.lit (.int .i64 (x.g : Int))) [] rfl ?_; intro w3 hown3 hg3; have H3 : Hid (w3.ownsMap Try.prog 9 pel m (Z.length + 1) ((D.del (.string t)).put (.string b) (.lit (.int .i64 (x.g : Int)))) ∧ w2.grownBy w3 (some m)) := ⟨hown3, hg3⟩; clear hown3 hg3))
    go_wp2_with fail
    go_ret
    rw [HE.out]
    have hmdd := HMD.out.del HTD.out HZ.out.ap t
    rw [← HX.out.2] at hmdd
    have hz3 := mov_dk HZ.out HX.out.1 b hb64 _ _ hmdd (by rw [HX.out.2]; exact HT2.out) (by rw [HX.out.2]; exact H3.out.1) (grown_trans HG2.out H3.out.2)
    rw [HX.out.2] at hz3
    exact ⟨rfl, ⟨some m, _, hz3⟩, (HF1.out.trans H2.out fun _ _ h => h).trans (Fr.of_grown (F := F) H3.out.2 fun j hj => .inl (by cases hj; exact HZ.out.fm m rfl)) fun _ _ h => h⟩
  · have hE2 : ((c : Int) == 0) = false := by simpa using h0
    have hE3 : ((c : Int) != 0) = true := by simp [bne, hE2]
    have HD1 : Hid _ := hd1
    clear hd1
    go_wp2_with fail
    go_ret
    have hA : s.rename t b = s.begins t [b] := by unfold St.rename; rw [if_pos (by rw [← HC.out]; exact h0)]
    rw [hA]
    exact ⟨by rw [← HC.out]; rfl, HD1.out, HF1.out⟩
end Go.Proofs.Ytdcoeebpknipdaa
