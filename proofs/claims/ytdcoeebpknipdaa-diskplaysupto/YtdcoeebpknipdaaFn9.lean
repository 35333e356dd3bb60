/- Contracts: Append, Sync, Remove, Rename, Read. -/
import Derived.Test.YtdcoeebpknipdaaFn8
namespace Go.Proofs.Ytdcoeebpknipdaa
open Go.RowKit Go.Maps

theorem DkZ.more {w : World} {d N N' : Nat} {F : Nat → Prop} {s : St} {mo : Option Nat} {Z : List Ent} (h : DkZ w d F N s mo Z) (hN : N ≤ N') : DkZ w d F N' s mo Z := ⟨h.b, h.f, h.m, h.fm, h.e, h.ap, h.fs, fun x hx => Nat.le_trans (h.n x hx) hN, h.nm, h.few, h.ops, h.lt⟩
theorem map_one {w : World} {d N : Nat} {F : Nat → Prop} {s : St} {mo : Option Nat} {Z : List Ent} (h : DkZ w d F N s mo Z) {e : Ent} (he : e ∈ Z) (k : Fl → Fl) (e' : Ent) (hk : k e.fl = e'.fl) : (s.fs.map fun f => if f.nm = e.nm then e'.fl else f) = s.fs.map fun f => if f.nm = e.nm then k f else f :=
  List.map_congr_left fun f hf => by
    by_cases hn : f.nm = e.nm
    · rw [if_pos hn, if_pos hn, h.uniq he hf hn, hk]
    · rw [if_neg hn, if_neg hn]
/-- Bytes behind a file of the disk. -/
theorem fadd_dk (w : World) (d N : Nat) (F : Nat → Prop) (s : St) (mo : Option Nat) (Z : List Ent) (e : Ent) (u : Value) (b : Str) (h : DkZ w d F N s mo Z) (he : e ∈ Z) (hr : Reads w u b) (hl : N + b.length ≤ 140737488355328) :
    Calls Try.prog 49 #[.pointer (some ⟨e.g, 0, none⟩), u] w fun ev w' => ev = .returned (.tuple #[]) ∧ (∃ F', Dk w' d F' (N + b.length) { s with fs := addF s.fs e.nm b } ∧ (∀ i, F' i → F i ∨ w.heap.size ≤ i)) ∧ Fr F w w' := by
  have o := h.e e he
  have hN := h.n e he
  refine (fadd_any w e.g e.v u e.sy e.bs b o.b o.o hr (by omega) (h.knd.rg e he e he)).mono ?_
  rintro ev w' ⟨rfl, v', w1, rfl, o1, g1, fr1⟩
  have hb1 : BxA w1 e.g 75 #[e.v, .int .i64 (e.sy : Int)] := by
    have := o.b
    unfold BxA at this ⊢
    rw [g1.block e.g o.b.lt (fun q => h.knd.rg e he e he q.symm)]
    exact this
  have hv' : ∀ r, v'.ownBlock = some r → r < w1.heap.size := fun r hr => (own_lt o1 r hr).2
  have hvF : ∀ r, v'.ownBlock = some r → F r ∨ w.heap.size ≤ r := fun r hr => by
    rcases fr1 with q | ⟨r', q, h2⟩
    · exact .inl (o.fv r (by rw [← q]; exact hr))
    · rw [q] at hr; cases hr; exact .inr h2
  have hvg : v'.ownBlock ≠ some e.g := fun q => by
    obtain ⟨cur, hc⟩ := owns_cells o1 q
    have h2 : w1.heap[e.g]? = _ := hb1
    rw [h2] at hc
    simp only [Option.some.injEq, Obj.cells.injEq] at hc
    exact absurd hc.2.1 (by decide)
  have gs := grown_setCell (w := w1) (R := e.g) (j := 0) (u := v')
  refine ⟨rfl, ⟨fun i => F i ∨ v'.ownBlock = some i, ⟨mo, put1 Z e ⟨e.nm, e.g, v', e.bs ++ b, e.sy⟩, ?_⟩, ?_⟩, ?_⟩
  · refine h.one (e' := ⟨e.nm, e.g, v', e.bs ++ b, e.sy⟩) (F' := fun i => F i ∨ v'.ownBlock = some i) (N' := N + b.length) he rfl rfl ⟨hb1.set 0 v', .inl o.f, owns_block o1 fun r hr => gs.block r (hv' r hr) fun q => hvg (by rw [hr]; exact q), fun r hr => .inr hr, by show e.sy ≤ (e.bs ++ b).length; have := o.le; simp; omega⟩ (fun i hi => .inl hi) (fun i hi => ?_) (fun i hi h1 h2 => ?_) ?_ (by omega) (by simp; omega) _ ?_
    · rcases hi with hi | hi
      · have := h.lt i hi
        have := g1.size
        simp
        omega
      · simpa using hv' i hi
    · rw [gs.block i (Nat.lt_of_lt_of_le (h.lt i hi) g1.size) (fun q => h1 (by simpa using q)), g1.block i (h.lt i hi) (fun q => h2 q.symm)]
    · rcases fr1 with q | ⟨r', q, h2⟩
      · exact .inl q
      · refine .inr fun r hr => ?_
        rw [show (⟨e.nm, e.g, v', e.bs ++ b, e.sy⟩ : Ent).v = v' from rfl, q] at hr
        cases hr
        exact h2
    · have := map_one h he (fun f => ⟨f.nm, f.bs ++ b, f.sy⟩) ⟨e.nm, e.g, v', e.bs ++ b, e.sy⟩ rfl
      rw [this]
      rfl
  · intro i hi
    rcases hi with hi | hi
    · exact .inl hi
    · exact hvF i hi
  · exact (Fr.of_grown (F := F) g1 fun j hj => .inl (o.fv j hj)).trans (Fr.of_grown (F := F) gs fun j hj => .inl (by cases hj; exact o.f)) fun _ _ h => h
theorem rfC_one {s : St} {t : Str} (h : rfC s [t] = 0) : isNm t = true ∧ s.off = false := by
  unfold rfC at h
  by_cases h1 : s.off = true
  · rw [if_pos h1] at h; cases h
  · rw [if_neg h1] at h
    by_cases h2 : [t].all isNm = true
    · exact ⟨by simpa using h2, by simpa using h1⟩
    · rw [if_neg h2] at h; cases h
theorem isNm_len {t : Str} (h : isNm t = true) : t.length ≤ 64 := by
  unfold isNm at h
  simp at h
  omega
theorem opnF_has {fs : List Fl} {t : Str} (h : hasF fs t = false) : opnF fs t = fs ++ [⟨t, [], 0⟩] := by unfold opnF; rw [h]; rfl
set_option maxRecDepth 100000 in
set_option maxHeartbeats 1600000 in
theorem append_any (w : World) (d N : Nat) (F : Nat → Prop) (s : St) (t : Str) (u : Value) (b : Str) (h : Dk w d F N s) (ht : t.length ≤ maxLen) (hr : ∀ w', Fr F w w' → Reads w' u b) (hl : N + b.length ≤ 140737488355328) (hop : s.ops < 1000000) :
    Calls Try.prog 23 #[.pointer (some ⟨d, 0, none⟩), .string ⟨t.toArray⟩, u] w fun ev w' => ev = .returned (.int .i64 ((s.append t b).1 : Nat)) ∧ (∃ F', Dk w' d F' (N + b.length) (s.append t b).2 ∧ (∀ i, F' i → F i ∨ w.heap.size ≤ i)) ∧ Fr F w w' := by
  have HR : Aside (∀ w', Fr F w w' → Reads w' u b) := hr
  obtain ⟨ua, uc, rfl⟩ : ∃ a c, u = .slice a b.length c := by obtain ⟨a, c, e, _⟩ := hr w (Fr.refl _ _); exact ⟨_, _, e⟩
  clear hr
  obtain ⟨W, hW⟩ : ∃ W, W = w.alloc (.cells #[.string ⟨t.toArray⟩] 9) := ⟨_, rfl⟩
  have bW : Below w.heap.size w W := by rw [hW]; exact (Below.refl _ _).alloc (Nat.le_refl _) _
  have hdW : Dk W d F N s := h.below bW
  have hrd : Rds W (.slice (some ⟨w.heap.size, 0, none⟩) 1 1) (sv [t]) := by
    rw [hW]
    exact own_rds (base := w.heap.size) (ns := [t]) (lit_own w [.string ⟨t.toArray⟩] 9 (by simp [maxLen]))
  have kR := refuses_any W d N F s _ [t] hdW hrd (fun x hx => by simp at hx; subst hx; exact ht)
  have HW : Hid (W = _) := hW
  have HB : Hid (Below w.heap.size w W) := bW
  have HDW : Hid (Dk W d F N s) := hdW
  have HD : Hid (Dk w d F N s) := h
  have HT : Hid _ := ht
  clear h ht hW bW hdW hrd
  go_enter Try.func23, Try.ntmps23
  go_wp2_with fail
  rw [← HW.out]
  refine kR.mono ?_
  rintro ev w2 ⟨rfl, b2⟩
  have hd2 := HDW.out.below b2
  have HFr2 : Hid (Fr F w w2) := Fr.of_below (HB.out.trans (b2.mono HB.out.size))
  have HD2 : Hid (Dk w2 d F N s) := hd2
  have kH := has_any w2 d N F s t hd2 HT.out
  obtain ⟨mo, Z, hz⟩ := id hd2
  have c0 : w2.cell? ⟨d, 0, none⟩ = some (.map mo) := hz.b.cell 0 _ rfl
  have hlen := fun ty => len_map hz.m ty
  have HZL : Hid (Z.length = s.fs.length) := by apply hide; rw [← hz.fs]; simp
  obtain ⟨c, hc⟩ : ∃ c, c = rfC s [t] := ⟨_, rfl⟩
  rw [← hc]
  have HC : Hid (c = rfC s [t]) := hc
  clear b2 hd2 hz kR hc
  by_cases h0 : c = 0
  · subst h0
    have HC0 : Hid _ := rfC_one HC.out.symm
    obtain ⟨q, hq⟩ : ∃ q, q = hasF s.fs t := ⟨_, rfl⟩
    rw [← hq] at kH
    have HQ : Hid (q = hasF s.fs t) := hq
    clear hq
    cases q
    case true =>
      go_wp2_with fail
      refine kH.mono ?_
      rintro ev w2' ⟨rfl, rfl⟩
      clear kH
      rename World => w2
      have hop2 : hasF s.fs t = true ∨ s.fs.length < 1000 := .inl HQ.out.symm
      have kO := open_any w2 d N F s t HD2.out (isNm_len HC0.out.1) hop2
      clear hop2
      go_wp2_with fail
      refine kO.mono ?_
      rintro ev w3 ⟨⟨F3, mo3, Z3, x, rfl, hz3, hx, hxn, hF3, hF3'⟩, fr3⟩
      have HF3 : Hid (Fr F w w3) := HFr2.out.trans fr3 fun _ _ h => h
      have kA := fadd_dk w3 d N F3 _ mo3 Z3 x _ b hz3 hx (HR.out w3 HF3.out) hl
      have H3 : Hid ((∀ i, F3 i → F i ∨ w.heap.size ≤ i)) := fun i hi => (hF3 i hi).imp id fun h => Nat.le_trans HFr2.out.size h
      rw [hxn] at kA
      clear kO hz3 hx hxn hF3 hF3' fr3
      go_wp2_with fail
      refine kA.mono ?_
      rintro ev w4 ⟨rfl, ⟨F4, hd4, hF4⟩, fr4⟩
      have kC := count_any w4 d (N + b.length) F4 _ hd4 hop
      have H4 : Hid ((∀ i, F4 i → F i ∨ w.heap.size ≤ i)) := fun i hi => (hF4 i hi).elim (H3.out i) fun h => .inr (Nat.le_trans HF3.out.size h)
      have HF4 : Hid (Fr F w w4) := HF3.out.trans fr4 fun i hi h => (H3.out i h).elim id fun h => absurd hi (by omega)
      clear kA hd4 hF4 fr4
      go_wp2_with fail
      refine kC.mono ?_
      rintro ev w5 ⟨rfl, hd5, fr5⟩
      have H5 : Hid _ := And.intro hd5 fr5
      clear kC hd5 fr5
      go_wp2_with fail
      go_ret
      have hA : s.append t b = St.count { s with fs := addF (opnF s.fs t) t b } := by
        unfold St.append
        rw [← HC.out, ← HQ.out]
        simp
      rw [hA]
      exact ⟨rfl, ⟨F4, H5.out.1, H4.out⟩, HF4.out.trans H5.out.2 fun i hi h => (H4.out i h).elim id fun h => absurd hi (by omega)⟩
    case false =>
      by_cases hL : 1000 ≤ Z.length
      · have hLz : (1000 : Int) ≤ (Z.length : Int) := by omega
        go_wp2_with fail
        refine kH.mono ?_
        rintro ev w2' ⟨rfl, rfl⟩
        clear kH
        go_wp2_with fail
        go_ret
        have hA : s.append t b = (1, s) := by
          unfold St.append
          rw [← HC.out, ← HQ.out]
          have := HZL.out
          simp
          omega
        rw [hA]
        obtain ⟨mo, Z, hz⟩ := HD2.out
        exact ⟨rfl, ⟨F, ⟨mo, Z, hz.more (Nat.le_add_right _ _)⟩, fun i hi => .inl hi⟩, HFr2.out⟩
      · have hLz : ¬ (1000 : Int) ≤ (Z.length : Int) := by omega
        have HLN : Hid (s.fs.length < 1000) := by apply hide; have := HZL.out; omega
        go_wp2_with fail
        refine kH.mono ?_
        rintro ev w2' ⟨rfl, rfl⟩
        clear kH
        rename World => w2
        have hop2 : hasF s.fs t = true ∨ s.fs.length < 1000 := .inr (by have := HLN.out; omega)
        have kO := open_any w2 d N F s t HD2.out (isNm_len HC0.out.1) hop2
        clear hop2
        go_wp2_with fail
        refine kO.mono ?_
        rintro ev w3 ⟨⟨F3, mo3, Z3, x, rfl, hz3, hx, hxn, hF3, hF3'⟩, fr3⟩
        have HF3 : Hid (Fr F w w3) := HFr2.out.trans fr3 fun _ _ h => h
        have kA := fadd_dk w3 d N F3 _ mo3 Z3 x _ b hz3 hx (HR.out w3 HF3.out) hl
        have H3 : Hid ((∀ i, F3 i → F i ∨ w.heap.size ≤ i)) := fun i hi => (hF3 i hi).imp id fun h => Nat.le_trans HFr2.out.size h
        rw [hxn] at kA
        clear kO hz3 hx hxn hF3 hF3' fr3
        go_wp2_with fail
        refine kA.mono ?_
        rintro ev w4 ⟨rfl, ⟨F4, hd4, hF4⟩, fr4⟩
        have kC := count_any w4 d (N + b.length) F4 _ hd4 hop
        have H4 : Hid ((∀ i, F4 i → F i ∨ w.heap.size ≤ i)) := fun i hi => (hF4 i hi).elim (H3.out i) fun h => .inr (Nat.le_trans HF3.out.size h)
        have HF4 : Hid (Fr F w w4) := HF3.out.trans fr4 fun i hi h => (H3.out i h).elim id fun h => absurd hi (by omega)
        clear kA hd4 hF4 fr4
        go_wp2_with fail
        refine kC.mono ?_
        rintro ev w5 ⟨rfl, hd5, fr5⟩
        have H5 : Hid _ := And.intro hd5 fr5
        clear kC hd5 fr5
        go_wp2_with fail
        go_ret
        have hA : s.append t b = St.count { s with fs := addF (opnF s.fs t) t b } := by
          unfold St.append
          rw [← HC.out, ← HQ.out]
          have := HLN.out
          simp
          omega
        rw [hA]
        exact ⟨rfl, ⟨F4, H5.out.1, H4.out⟩, HF4.out.trans H5.out.2 fun i hi h => (H4.out i h).elim id fun h => absurd hi (by omega)⟩
  · have hE2 : ((c : Int) == 0) = false := by simpa using h0
    have hE3 : ((c : Int) != 0) = true := by simp [bne, hE2]
    go_wp2_with fail
    go_ret
    have hA : s.append t b = (c, s) := by
      unfold St.append
      rw [← HC.out, if_pos h0]
    rw [hA]
    obtain ⟨mo, Z, hz⟩ := HD2.out
    exact ⟨rfl, ⟨F, ⟨mo, Z, hz.more (Nat.le_add_right _ _)⟩, fun i hi => .inl hi⟩, HFr2.out⟩
end Go.Proofs.Ytdcoeebpknipdaa
