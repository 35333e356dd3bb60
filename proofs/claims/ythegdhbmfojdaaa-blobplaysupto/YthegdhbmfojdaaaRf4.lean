/- The reference's disk: Read, List, Sync. -/
import Derived.Test.YthegdhbmfojdaaaRf3
import Derived.Test.YthegdhbmfojdaaaPreB
namespace Go.Proofs.Ythegdhbmfojdaaa
open Go.RowKit Go.Maps Go.Sort
set_option linter.unusedVariables false

/-- append(s, x...) as an equation: s the call's own, x whatever reads as elements, nil too. -/
theorem run_appN {P : Program} (w : World) (base : Nat) (t ty e : TypeId) (i : TypeInfo) (z : Value) (size bytes : Nat) (ht : P.underlying t = some (.slice e)) (hi : P.info? e = some i) (hz : i.zero = some z)
    (hsize : i.size = size) (hby : i.bytes = bytes) (hzs : z.cells.size = size) (hsz : 0 < size)
    (v : Value) (n : Nat) (xs : List Value) (hown : w.ownsRow base e size v n xs)
    (u : Value) (m : Nat) (news : List Value) (hr : RdsK size w u m news) (h1 : ∀ u ∈ news, u.oneCell' = true)
    (h63 : n + m ≤ maxLen) (hbytes : ((n + m) + (n + m) / 4 + 192) * bytes ≤ 281474976710656) (hbase : base ≤ w.heap.size) :
    ∃ v' w', (Builtin.append_ #[t, t] ty #[v, u]).run P w = .ok v' w' ∧ w'.ownsRow base e size v' (n + m) (xs ++ news) ∧ w.grownBy w' v.ownBlock ∧ (v'.ownBlock = v.ownBlock ∨ ∃ g, v'.ownBlock = some g ∧ w.heap.size ≤ g) := by
  obtain ⟨ao, cap, rfl, h0, h2, h3, h4, h5⟩ := hr
  cases ao with
  | none =>
    obtain ⟨rfl, rfl⟩ := h4 rfl
    have hn : news = [] := List.eq_nil_of_length_eq_zero (by simpa using h0)
    subst hn
    exact ⟨v, w, run_append_owned_none (P := P) (w := w) base t ty e i size ht hi v n xs hown, by simpa using hown, ⟨rfl, rfl, rfl, Nat.le_refl _, fun _ _ _ => rfl⟩, .inl rfl⟩
  | some ad => exact run_appF (P := P) w base t ty e i z size bytes ht hi hz hsize hby hzs hsz v n xs hown ad m cap news h0 (h5 ad rfl) h1 h63 hbytes hbase
theorem step_appN {P : Program} {ops : Array Oper} {o : Oper} {a : Act} {w : World} {K : Act → World → Prop} {Q : Exit → Act → World → Prop} {E : Prop} (hgd : o.guard = none) (s x : Operand) (t : TypeId)
    (ho : o.op = .call { callee := .builtin .append, args := #[s, x], argTypes := #[t, t] })
    (base : Nat) (e : TypeId) (i : TypeInfo) (z : Value) (size bytes : Nat) (ht : P.underlying t = some (.slice e)) (hi : P.info? e = some i) (hz : i.zero = some z)
    (hsize : i.size = size) (hby : i.bytes = bytes) (hzs : z.cells.size = size) (hsz : 0 < size)
    (v : Value) (n : Nat) (xs : List Value) (hs : a.eval s = v) (hown : w.ownsRow base e size v n xs)
    (u : Value) (m : Nat) (news : List Value) (hx : a.eval x = u) (hr : RdsK size w u m news) (h1 : ∀ u ∈ news, u.oneCell' = true)
    (h63 : n + m ≤ maxLen) (hbytes : ((n + m) + (n + m) / 4 + 192) * bytes ≤ 281474976710656) (hbase : base ≤ w.heap.size)
    (h : ∀ v' w', w'.ownsRow base e size v' (n + m) (xs ++ news) → w.grownBy w' v.ownBlock → (v'.ownBlock = v.ownBlock ∨ ∃ g, v'.ownBlock = some g ∧ w.heap.size ≤ g) → K (a.put o.dst v') w') :
    if Region.wanted o (yielded ops a.tmps) = true then Oper.wp P o a w K Q else E := by
  have hw : Region.wanted o (yielded ops a.tmps) = true := by simp [Region.wanted, hgd]
  rw [if_pos hw]
  obtain ⟨v', w', hrun, k1, k2, k3⟩ := run_appN (P := P) w base t o.type e i z size bytes ht hi hz hsize hby hzs hsz v n xs hown u m news hr h1 h63 hbytes hbase
  unfold Oper.wp execOp
  simp only [ho, resolve, invoke, builtin, Sem.run_bind, Sem.run_pure, Result.andThen_ok, List.map_toArray, List.map_cons, List.map_nil, hs, hx, hrun]
  exact h v' w' k1 k2 k3
theorem pre_yesR {s t : Str} (h : Lib.hasPrefix t s = true) : s.length ≤ t.length ∧ t.take s.length = s := by
  unfold Lib.hasPrefix at h
  rw [List.isPrefixOf_iff_prefix] at h
  exact ⟨h.length_le, (List.prefix_iff_eq_take.1 h).symm⟩
theorem pre_noR {s t : Str} (h : Lib.hasPrefix t s = false) : t.take s.length ≠ s := fun e => by
  have : Lib.hasPrefix t s = true := by
    unfold Lib.hasPrefix
    rw [List.isPrefixOf_iff_prefix]
    exact List.prefix_iff_eq_take.2 e.symm
  rw [h] at this
  cases this
theorem str_takeR (t : Str) (k : Nat) : (⟨t.toArray⟩ : ByteArray).extract 0 k = ⟨(t.take k).toArray⟩ := by
  apply ByteArray.ext
  apply Array.ext'
  rw [Lib.extract_data]
  simp
set_option maxHeartbeats 800000 in
theorem refbeginsR (w : World) (t p : Str) (ht : t.length ≤ maxLen) (hp : p.length ≤ maxLen) : Calls Try.prog 28 #[.string ⟨t.toArray⟩, .string ⟨p.toArray⟩] w fun e w' => e = .returned (.bool (Lib.hasPrefix t p)) ∧ w' = w := by
  unfold maxLen at ht hp
  have hst := str_size t
  have hsp := str_size p
  have st := str_takeR t p.length
  by_cases hb : Lib.hasPrefix t p = true
  · obtain ⟨p1, p2⟩ := pre_yesR hb
    have p1z : (p.length : Int) ≤ (t.length : Int) := by omega
    rw [p2] at st
    rw [hb]
    clear hb p2
    go_enter Try.func28, Try.ntmps28
    go_wp2_with fail
    go_ret
    exact ⟨rfl, rfl⟩
  · have hb : Lib.hasPrefix t p = false := by simpa using hb
    have hne := pre_noR hb
    rw [hb]
    by_cases p1 : p.length ≤ t.length
    · have p1z : (p.length : Int) ≤ (t.length : Int) := by omega
      generalize t.take p.length = t' at *
      have he2 : (t' == p) = false := by simpa using hne
      clear hb hne
      go_enter Try.func28, Try.ntmps28
      go_wp2_with fail
      go_ret
      exact ⟨rfl, rfl⟩
    · have p1z : ¬ (p.length : Int) ≤ (t.length : Int) := by omega
      clear hb hne st
      go_enter Try.func28, Try.ntmps28
      go_wp2_with fail
      go_ret
      exact ⟨rfl, rfl⟩
def rrd (s : RSt) (t : Str) : Str := if rrc s t t = 0 then bytF s.fs t else []
/-- The file that is there. -/
theorem RZ.find {w : World} {r N : Nat} {F : Nat → Prop} {s : RSt} {Lv : Value} {Z : List RE} (h : RZ w r F N s Lv Z) {t : Str} (ht : hasF s.fs t = true) : ∃ (i : Nat) (hi : i < Z.length), fI s.fs t = (i : Int) ∧ Z[i].nm = t ∧ bytF s.fs t = Z[i].bs ∧ ∀ j (hj : j < Z.length), j < i → Z[j].nm ≠ t := by
  unfold fI
  cases hf : s.fs.findIdx? (fun f => f.nm == t) with
  | none =>
    rw [List.findIdx?_eq_none_iff] at hf
    unfold hasF at ht
    rw [List.any_eq_true] at ht
    obtain ⟨f, h1, h2⟩ := ht
    rw [hf f h1] at h2
    cases h2
  | some i =>
    rw [List.findIdx?_eq_some_iff_getElem] at hf
    obtain ⟨hi, h1, h2⟩ := hf
    have hi' : i < Z.length := by rw [← h.fs, List.length_map] at hi; exact hi
    have hfe : ∀ j (hj : j < Z.length) (hj' : j < s.fs.length), s.fs[j] = Z[j].fl := fun j hj hj' => by
      have : s.fs[j]? = (Z.map RE.fl)[j]? := by rw [h.fs]
      rw [List.getElem?_eq_getElem hj', List.getElem?_map, List.getElem?_eq_getElem hj] at this
      simpa using this
    have hn : Z[i].nm = t := by
      have := hfe i hi' hi
      rw [this] at h1
      simpa [RE.fl] using h1
    have hlt : ∀ j (hj : j < Z.length), j < i → Z[j].nm ≠ t := fun j hj hji => by
      have hj' : j < s.fs.length := by omega
      have := h2 j hji
      rw [hfe j hj hj'] at this
      simpa [RE.fl] using this
    refine ⟨i, hi', rfl, hn, ?_, hlt⟩
    unfold bytF gotF
    have e : s.fs = Z.map RE.fl := h.fs.symm
    rw [e]
    have : ((Z.map RE.fl).filter fun f => f.nm == t) = (Z[i].fl) :: ((Z.drop (i + 1)).map RE.fl).filter fun f => f.nm == t := by
      have hsp : Z = Z.take i ++ Z[i] :: Z.drop (i + 1) := by rw [← List.drop_eq_getElem_cons hi', List.take_append_drop]
      have h3 : ((Z.take i).map RE.fl).filter (fun f => f.nm == t) = [] := by
        rw [List.filter_eq_nil_iff]
        intro f hf q
        obtain ⟨x, hx, rfl⟩ := List.mem_map.1 hf
        obtain ⟨j, hj, e⟩ := List.getElem_of_mem hx
        rw [List.length_take] at hj
        rw [List.getElem_take] at e
        have := hlt j (by omega) (by omega)
        rw [e] at this
        exact this (by simpa [RE.fl] using q)
      have h4 : (Z.map RE.fl) = (Z.take i).map RE.fl ++ Z[i].fl :: (Z.drop (i + 1)).map RE.fl := by
        rw [← List.map_cons, ← List.map_append, ← hsp]
      rw [h4, List.filter_append, h3, List.nil_append, List.filter_cons_of_pos (by simpa [RE.fl] using hn)]
    rw [this]
    rfl
set_option maxRecDepth 100000 in
set_option maxHeartbeats 1600000 in
theorem refread_any (w : World) (r N : Nat) (F : Nat → Prop) (s : RSt) (t : Str) (h : Rd w r F N s) (ht : t.length ≤ maxLen) (hN : N ≤ 140737488355328) :
    Calls Try.prog 67 #[.pointer (some ⟨r, 0, none⟩), .string ⟨t.toArray⟩] w fun e w' => ∃ v, e = .returned (.tuple #[v, .int .i64 (rrc s t t : Nat)]) ∧ Owns w' w.heap.size v (rrd s t) ∧ Below w.heap.size w w' := by
  have mixed : Try.prog.follows .mixedOrders = true := by kernel_rfl
  obtain ⟨i0, hi0, hz0, hz1, hz2⟩ := info_parts Try.info5
  have kR := refrefused_any w r N F s t t h ht ht
  have HH : Hid (Rd w r F N s) := h
  have HC : Hid (rrc s t t = 0 → hasF s.fs t = true) := fun q => by
    unfold rrc at q
    cases ho : s.off with
    | true => rw [ho] at q; simp at q
    | false =>
      cases hn : isNm t with
      | false => rw [ho, hn] at q; simp at q
      | true =>
        cases hh : hasF s.fs t with
        | true => rfl
        | false => rw [ho, hn, hh] at q; simp at q
  have HD : Hid (rrd s t = if rrc s t t = 0 then bytF s.fs t else []) := rfl
  obtain ⟨c, hc⟩ : ∃ c, c = rrc s t t := ⟨_, rfl⟩
  rw [← hc] at kR HC HD
  have HCC : Hid (c = rrc s t t) := hc
  rw [← hc]
  clear h hc
  by_cases h0 : c = 0
  · subst h0
    obtain ⟨Lv, Z, hz⟩ := HH.out
    have hh := HC.out rfl
    obtain ⟨i, hi, e1, e2, e3, -⟩ := hz.find hh
    have kF := reffind_any w r N F s t HH.out
    rw [e1] at kF
    rw [e3] at HD
    obtain ⟨a, cap, rfl, hc1, hc2, hcs⟩ := hz.cells
    have b0 : w.cell? ⟨r, 0, none⟩ = some (.slice a Z.length cap) := BxA.cell hz.b 0 _ rfl
    obtain ⟨g, rfl, hx⟩ := hcs (by omega)
    obtain ⟨-, x1, -, -⟩ := hx i hi
    obtain ⟨q1, -, -⟩ := hz.e _ (List.getElem_mem hi)
    have q4 := hz.nb _ (List.getElem_mem hi)
    have hfew := hz.few
    obtain ⟨e, he⟩ : ∃ e, e = Z[i] := ⟨_, rfl⟩
    rw [← he] at x1 q1 q4 HD
    obtain ⟨enm, ev, ebs, esy⟩ := e
    simp only at x1 q1 q4 HD
    obtain ⟨va, vc, rfl⟩ : ∃ a c, ev = .slice a ebs.length c := by obtain ⟨a, c, e, _⟩ := q1.reads; exact ⟨_, _, e⟩
    have HQ1 : Hid (Owns w 0 (.slice va ebs.length vc) ebs) := q1
    obtain ⟨n, hn⟩ : ∃ n, n = Z.length := ⟨_, rfl⟩
    rw [← hn] at b0 hc1 hi hfew
    have hiz : (i : Int) < (n : Int) := by omega
    have hi0z : (0 : Int) ≤ (i : Int) := by omega
    have z0 := fun nq os => gro_cell b0 nq os
    have z1 := fun nq os => gro_cell x1 nq os
    have zF : ∀ nq os, Calls Try.prog 62 #[.pointer (some ⟨r, 0, none⟩), .string ⟨t.toArray⟩] (Go.Sort.grow (w.drewN nq) os) fun e w' => e = .returned (.int .i64 (i : Int)) ∧ ∃ q os', w' = Go.Sort.grow ((Go.Sort.grow (w.drewN nq) os).drewN q) os' := fun nq os => (by
      have := reffind_any (Go.Sort.grow (w.drewN nq) os) r N F s t (HH.out.below (gro_below w nq os))
      rw [e1] at this
      exact this.mono fun _ _ ⟨he, hw⟩ => ⟨he, 0, #[], by rw [hw, grow_empty]; rfl⟩)
    unfold maxLen at hc2
    clear hx hz he hn e1 e2 e3 kF hh q1 b0 x1
    go_enter Try.func67, Try.ntmps67
    go_wp2_with fail
    refine kR.mono ?_
    rintro e wq ⟨rfl, rfl⟩
    clear kR
    go_wp2_with fail
    refine wp_region_first_grown 11 3 (by assumption) rfl (by kernel_rfl) (by kernel_rfl) (by kernel_rfl) (by kernel_rfl) ?_
    simp only [List.take_succ_cons, List.take_zero]
    repeat (go_big_quiet_step (first | (go_at_call 62; with_reducible refine Calls.grown_of (zF _ _))))
    refine wpQuiet_nil ?_
    intro V hw'
    obtain ⟨⟨nq, osq⟩, hw''⟩ := hw'
    have HBV : Hid (RowKit.Below wq.heap.size wq V) := by apply hide; rw [hw'']; exact gro_below wq nq osq
    have HRV : Hid (RdsK 1 V (.slice va ebs.length vc) ebs.length (bv ebs)) := (HQ1.out.reads.below HBV.out).k
    clear hw'' z0 z1 zF
    refine wpAny_ready (rs := [11]) (by kernel_rfl) (by simp) ?_
    refine AllReady.cons rfl (fun K hK => ?_) AllReady.nil
    refine step_appN rfl (.tmp 15) (.tmp 25) 33 rfl V.heap.size 5 i0 (.int .u8 0) 1 1 Try.underlying33 hi0 hz0 hz1 hz2 rfl (by decide) (.slice none 0 0) 0 [] rfl ⟨rfl, .inl ⟨rfl, rfl⟩⟩ (.slice va ebs.length vc) ebs.length (bv ebs) rfl HRV.out (bv_one _) (by unfold maxLen; omega) (by omega) (Nat.le_refl _) ?_
    intro v5 w5 o5 g5 _
    have HO5 : Hid (Owns w5 V.heap.size v5 ebs) := by apply hide; unfold Owns; rw [Nat.zero_add, List.nil_append] at o5; exact o5
    have HG5 : Hid (V.grownBy w5 none) := g5
    clear o5 g5
    refine hK _ _ ?_
    clear hK K
    refine wpAny_ready (rs := [12]) (by kernel_rfl) (by simp) ?_
    refine AllReady.cons rfl (fun K hK => ?_) AllReady.nil
    go_simp
    refine hK _ _ ?_
    clear hK K
    refine wpAny_ready (rs := [13]) (by kernel_rfl) (by simp) ?_
    refine AllReady.cons rfl (fun K hK => ?_) AllReady.nil
    go_simp
    refine hK _ _ ?_
    clear hK K
    refine wpAny_done (by kernel_rfl) ?_ _
    go_wp2_with fail
    go_ret2
    have hb5 : RowKit.Below V.heap.size V w5 := ⟨HG5.out.os, HG5.out.tape, HG5.out.output, HG5.out.size, fun i hi => HG5.out.block i hi (by simp)⟩
    have e9 : rrd s t = ebs := by have := HD.out; simpa using this
    rw [e9]
    exact ⟨_, rfl, HO5.out.mono HBV.out.size, HBV.out.trans (hb5.mono HBV.out.size)⟩
  · have h0z : ¬ (c : Int) = 0 := by omega
    go_enter Try.func67, Try.ntmps67
    go_wp2_with fail
    refine kR.mono ?_
    rintro e wq ⟨rfl, rfl⟩
    clear kR
    go_wp2_with fail
    go_ret2
    rw [HD.out, if_neg h0]
    exact ⟨_, rfl, ⟨rfl, .inl ⟨rfl, rfl⟩⟩, Below.refl _ _⟩
def rls (s : RSt) (p : Str) : List Str := if s.off then [] else preN s.fs p
set_option maxRecDepth 100000 in
set_option maxHeartbeats 1600000 in
/-- List: the names that begin so, as they stand. -/
theorem reflist_any (w : World) (r N : Nat) (F : Nat → Prop) (s : RSt) (p : Str) (h : Rd w r F N s) (hp : p.length ≤ maxLen) (hnm : ∀ f ∈ s.fs, f.nm.length ≤ maxLen) :
    Calls Try.prog 69 #[.pointer (some ⟨r, 0, none⟩), .string ⟨p.toArray⟩] w fun e w' => ∃ v, e = .returned v ∧ Own w' w.heap.size 9 v (sv (rls s p)) ∧ Below w.heap.size w w' := by
  obtain ⟨i0, hi0, hi1, hi2, hi3⟩ := info_parts Try.info_str
  obtain ⟨Lv, Z, hz⟩ := h
  obtain ⟨a, cap, rfl, hc1, hc2, hcs⟩ := hz.cells
  have b0 : w.cell? ⟨r, 0, none⟩ = some (.slice a Z.length cap) := BxA.cell hz.b 0 _ rfl
  have b1 : w.cell? ⟨r, 1, none⟩ = some (.bool s.off) := BxA.cell hz.b 1 _ rfl
  have HC : Hid (0 < Z.length → ∃ g, a = some ⟨g, 0, none⟩ ∧ ∀ i (hi : i < Z.length), w.cell? ⟨g, i * 3, none⟩ = some (.string ⟨Z[i].nm.toArray⟩)) := fun hp => by
    obtain ⟨g, e, hx⟩ := hcs hp
    exact ⟨g, e, fun i hi => (hx i hi).1⟩
  have HFS : Hid (Z.map RE.fl = s.fs) := hz.fs
  have HNM : Hid (∀ i (hi : i < Z.length), Z[i].nm.length ≤ maxLen) := fun i hi => hnm Z[i].fl (by rw [← hz.fs]; exact List.mem_map.2 ⟨_, List.getElem_mem hi, rfl⟩)
  have hfew := hz.few
  obtain ⟨n, hn⟩ : ∃ n, n = Z.length := ⟨_, rfl⟩
  have HN : Hid (n = Z.length) := hn
  rw [← hn] at b0 hc1 hfew
  have HB0 : Hid (∀ w', Below w.heap.size w w' → w'.cell? ⟨r, 0, none⟩ = some (.slice a n cap) ∧ w'.cell? ⟨r, 1, none⟩ = some (.bool s.off)) := fun w' hb => ⟨by rw [hb.cell (World.block_lt_of_cell? _ _ b0), b0], by rw [hb.cell (World.block_lt_of_cell? _ _ b1), b1]⟩
  unfold maxLen at hc2
  clear hcs hz hn b0 b1 hnm
  go_enter Try.func69, Try.ntmps69
  go_wp2_with fail
  go_loopg [5, 6, 7] n (fun kx v5 v6 _ wr => ∃ (k : Nat) (acc : List Str) (x : Value), x = v5 ∧ v6 = .int .i64 (k : Int) ∧ k ≤ n ∧ n - k ≤ kx ∧ acc.length ≤ k ∧ Hid (0 < k → s.off = false) ∧ Hid (acc = preN ((Z.take k).map RE.fl) p) ∧ Hid (wr.ownsRow w.heap.size 9 1 x acc.length (sv acc)) ∧ Hid (Below w.heap.size w wr))
  case atStart => exact ⟨0, [], _, rfl, rfl, Nat.zero_le _, Nat.le_refl _, Nat.le_refl _, fun h => by omega, by apply hide; simp [preN], ⟨rfl, .inl ⟨rfl, rfl⟩⟩, Below.refl _ _⟩
  case round =>
    obtain ⟨k, acc, x, rfl, rfl, hk, hkx, hak, HOF, HA, HX, HB⟩ := hrel
    obtain ⟨c0, c1⟩ := HB0.out wr HB.out
    by_cases hlt : k < n
    · have hltz : (k : Int) < (n : Int) := by omega
      cases ho : s.off with
      | true =>
        rw [ho] at c1
        have hk0 : k = 0 := Nat.eq_zero_of_not_pos fun q => by rw [HOF.out q] at ho; cases ho
        have HE : Hid (acc = rls s p) := by
          apply hide
          unfold rls
          rw [HA.out, hk0, ho]
          simp [preN]
        clear hk0
        go_wp2_with fail
        go_ret
        rw [← HE.out]
        exact ⟨_, rfl, (by unfold Own; rw [sv_length]; exact HX.out), HB.out⟩
      | false =>
        rw [ho] at c1
        have HO2 : Hid (s.off = false) := ho
        have hkl : k < Z.length := by have := HN.out; omega
        obtain ⟨g, rfl, hx⟩ := HC.out (by omega)
        have x0w := hx k hkl
        have x0 : wr.cell? ⟨g, k * 3, none⟩ = some (.string ⟨(Z[k]'hkl).nm.toArray⟩) := by rw [HB.out.cell (World.block_lt_of_cell? _ _ x0w), x0w]
        have kB := refbeginsR wr (Z[k]'hkl).nm p (HNM.out k hkl) hp
        have HTK : Hid (preN ((Z.take (k + 1)).map RE.fl) p = if Lib.hasPrefix (Z[k]'hkl).nm p then preN ((Z.take k).map RE.fl) p ++ [(Z[k]'hkl).nm] else preN ((Z.take k).map RE.fl) p) := by
          apply hide
          unfold preN
          rw [List.take_succ_eq_append_getElem hkl, List.map_append, List.filter_append, List.map_append]
          cases hq : Lib.hasPrefix (Z[k]'hkl).nm p <;> simp [RE.fl, hq]
        obtain ⟨y, hy⟩ : ∃ y, y = (Z[k]'hkl).nm := ⟨_, rfl⟩
        rw [← hy] at x0 kB HTK
        obtain ⟨q, hq⟩ : ∃ q, q = Lib.hasPrefix y p := ⟨_, rfl⟩
        rw [← hq] at kB HTK
        have HW1 : Hid (wrap64 ((k : Int) + 1) = (k : Int) + 1) := by apply hide; rw [← IntWalk.i64_left, IntKind.wrap_i64]; omega
        clear hx x0w hy hq ho
        go_wp2_with fail
        refine kB.mono ?_
        rintro e wq ⟨rfl, rfl⟩
        clear kB
        cases q
        case false =>
          go_wp2_with fail
          go_roundg (n - (k + 1))
          case measure => exact Nat.lt_of_lt_of_le (Nat.sub_lt_sub_left hlt (Nat.lt_succ_self k)) hkx
          case rel => exact ⟨k + 1, acc, x, rfl, by first | (rw [HW1.out]; rfl) | rfl, hlt, Nat.le_refl _, Nat.le_succ_of_le hak, fun _ => HO2.out, by apply hide; rw [HTK.out, HA.out]; simp, HX, HB⟩
        case true =>
          have HLO : Hid (RdsK 1 (wq.alloc (.cells #[Value.string ⟨y.toArray⟩] 9)) (.slice (some ⟨wq.heap.size, 0, none⟩) 1 1) 1 [Value.string ⟨y.toArray⟩]) := RdsK.of_own (lit_own wq [Value.string ⟨y.toArray⟩] 9 (by simp [maxLen]))
          have HAO : Hid ((wq.alloc (.cells #[Value.string ⟨y.toArray⟩] 9)).ownsRow w.heap.size 9 1 x acc.length (sv acc)) := World.ownsRow.alloc HX.out _
          have hsz1 : w.heap.size ≤ wq.heap.size := HB.out.size
          go_wp2_with (first | (at_builtin; refine wpList_appF rfl _ _ 42 rfl w.heap.size 9 i0 (.string ⟨#[]⟩) 1 16 Try.underlying42 hi0 hi1 hi2 hi3 rfl (by decide) x acc.length (sv acc) rfl HAO.out (.slice (some ⟨wq.heap.size, 0, none⟩) 1 1) 1 [Value.string ⟨y.toArray⟩] rfl HLO.out (fun u hu => by simp at hu; subst hu; rfl) (by unfold maxLen; omega) (by omega) (Nat.le_trans hsz1 (by simp)) ?_; intro v5 w5 o5 g5 _; have H5 : Hid (w5.ownsRow w.heap.size 9 1 v5 (acc.length + 1) (sv acc ++ [Value.string ⟨y.toArray⟩]) ∧ (wq.alloc (.cells #[Value.string ⟨y.toArray⟩] 9)).grownBy w5 x.ownBlock) := ⟨o5, g5⟩; clear o5 g5))
          go_wp2_with fail
          obtain ⟨o5, g5⟩ := H5.out
          have gA : wq.grownBy w5 x.ownBlock := grown_trans (grown_alloc _ _ _) g5
          have hxb : ∀ r, x.ownBlock = some r → w.heap.size ≤ r := fun r hr => (own_lt HX.out r hr).1
          go_roundg (n - (k + 1))
          case measure => exact Nat.lt_of_lt_of_le (Nat.sub_lt_sub_left hlt (Nat.lt_succ_self k)) hkx
          case rel =>
            refine ⟨k + 1, acc ++ [y], v5, rfl, by first | (rw [HW1.out]; rfl) | rfl, hlt, Nat.le_refl _, by simpa using hak, fun _ => HO2.out, ?_, ?_, ?_⟩
            · apply hide
              rw [HTK.out, HA.out]
              simp
            · apply hide
              rw [sv_append, List.length_append]
              exact o5
            · exact HB.out.trans ⟨gA.os, gA.tape, gA.output, gA.size, fun i hi => gA.block i (by omega) fun q => by have h1 := hxb i q.symm; omega⟩
    · have hltz : ¬ (k : Int) < (n : Int) := by omega
      have HE : Hid (acc = rls s p) := by
        apply hide
        unfold rls
        rw [HA.out, List.take_of_length_le (by have := HN.out; omega), HFS.out]
        cases ho : s.off with
        | false => rfl
        | true =>
          have hk0 : k = 0 := Nat.eq_zero_of_not_pos fun q => by rw [HOF.out q] at ho; cases ho
          have hz0 : Z = [] := List.eq_nil_of_length_eq_zero (by have := HN.out; omega)
          rw [← HFS.out, hz0]
          simp [preN]
      go_wp2_with fail
      go_ret
      rw [← HE.out]
      exact ⟨_, rfl, (by unfold Own; rw [sv_length]; exact HX.out), HB.out⟩
end Go.Proofs.Ythegdhbmfojdaaa
