/- Blobs of unlike names: what the law keeps beside the store. -/
import Derived.Test.YthegdhbmfojdaaaKpM
import Derived.Test.YthegdhbmfojdaaaOpI
import Derived.Shelf.SlSortCmp.QuietGrown
import Derived.BigQuiet
namespace Go.Proofs.Ythegdhbmfojdaaa
open Go.RowKit Go.Maps Go.Sort
set_option linter.unusedVariables false

theorem mHas_mem (M : List (Str × Str)) (x : Str) : mHas M x = decide (x ∈ M.map Prod.fst) := by
  cases h : mHas M x with
  | true =>
    obtain ⟨l, hl⟩ := mHas_in h
    exact (decide_eq_true (List.mem_map.2 ⟨_, hl, rfl⟩)).symm
  | false =>
    refine (decide_eq_false fun hm => ?_).symm
    obtain ⟨⟨y, l⟩, hl, e⟩ := List.mem_map.1 hm
    have e' : y = x := e
    subst e'
    rw [in_mHas hl] at h
    cases h
/-- What a Put without cuts does. -/
inductive ApS (M : List (Str × Str)) (n : Nat) (x m : Str) : Nat × St → Prop
  | same (c : Nat) (h0 : c = 0 → mHas M x = true) (h1 : c = 0 ∨ c = 1 ∨ c = 121) : ApS M n x m (c, bS M n false false 0 0)
  | new (h0 : mHas M x = false) (hx : bNm x = true) (hm : m.length ≤ 1048576) : ApS M n x m (0, bS (M ++ [(x, m)]) (n + 3) false false 0 0)
theorem ap_put {M : List (Str × Str)} (hM : Bls M) (hfew : M.length < 1000) (n : Nat) (x m : Str) : ApS M n x m (bput (bS M n false false 0 0) x m) := by
  by_cases hb : bNm x = false ∨ 1048576 < m.length
  · rw [bput_no rfl hb]
    exact .same 1 (fun h => by cases h) (.inr (.inl rfl))
  · have hx : bNm x = true := by
      cases h : bNm x with
      | true => rfl
      | false => exact absurd (.inl h) hb
    have hm : m.length ≤ 1048576 := Nat.le_of_not_lt fun h => hb (.inr h)
    cases h : mHas M x with
    | true =>
      obtain ⟨l, hl⟩ := mHas_in h
      rw [bput_in (M := M) rfl hM rfl hl hm]
      refine .same _ (fun _ => h) ?_
      split
      · exact .inl rfl
      · exact .inr (.inr rfl)
    | false =>
      rcases bput_new (M := M) (n := n) (st := false) (op := 0) (part := 0) hfew hx hm h with e | ⟨f, k, _, _, _, _, h1, _⟩
      · rw [e]
        exact .new h hx hm
      · cases h1
theorem blist_b {s : St} {M : List (Str × Str)} (hs : s.fs = M.map blF) (ho : s.off = false) (hM : Bls M) : (blist s).length = M.length := by
  unfold blist blN lstN
  rw [ho, hs, (pre_b M).2]
  have hp : (srt (M.map fun e => fB e.1)).Perm (M.map fun e => fB e.1) := List.mergeSort_perm _ _
  have h1 := ((hp.map fun t => t.drop 2).filter bNm).length_eq
  show (((srt (M.map fun e => fB e.1)).map fun t => t.drop 2).filter bNm).length = M.length
  rw [h1, List.map_map]
  have : (M.map ((fun t : Str => t.drop 2) ∘ fun e => fB e.1)) = M.map Prod.fst := List.map_congr_left fun e _ => rfl
  rw [this, List.filter_eq_self.2, List.length_map]
  intro x hx
  obtain ⟨e, he, rfl⟩ := List.mem_map.1 hx
  exact hM.nm e he
theorem del_out {M : List (Str × Str)} (x : Str) : mHas (mDel M x) x = false := by
  unfold mHas mDel
  rw [List.any_eq_false]
  intro e he
  have := (List.mem_filter.1 he).2
  simpa using this
theorem del_in {M : List (Str × Str)} {x : Str} {e : Str × Str} (h : e ∈ M) (hn : e.1 ≠ x) : e ∈ mDel M x := by
  unfold mDel
  rw [List.mem_filter]
  exact ⟨h, by simpa using hn⟩
theorem fst_inj {M : List (Str × Str)} (hM : Bls M) {i j : Nat} (hi : i < M.length) (hj : j < M.length) (h : i ≠ j) : M[i].1 ≠ M[j].1 := by
  have nd := List.pairwise_iff_getElem.1 hM.nd
  rcases Nat.lt_or_gt_of_ne h with q | q
  · exact nd i j hi hj q
  · exact fun e => nd j i hj hi q e.symm
/-- The store, and the two rows of texts. -/
structure Ap (w0 w : World) (p d : Nat) (F : Nat → Prop) (N : Nat) (s : St) (A B : List Str) (x y : Value) : Prop where
  ls : LS w0 w p d F N s
  a : w.ownsRow w0.heap.size 9 1 x A.length (sv A)
  b : w.ownsRow w0.heap.size 9 1 y B.length (sv B)
  fa : ∀ r, x.ownBlock = some r → ¬ F r ∧ r ≠ p
  fb : ∀ r, y.ownBlock = some r → ¬ F r ∧ r ≠ p
  ab : ∀ r, x.ownBlock = some r → y.ownBlock ≠ some r
theorem row_block {w w' : World} {base e n : Nat} {v : Value} {xs : List Value} (h : w.ownsRow base e 1 v n xs) (hb : ∀ r, v.ownBlock = some r → w'.heap[r]? = w.heap[r]?) : w'.ownsRow base e 1 v n xs := by
  refine ⟨h.1, ?_⟩
  rcases h.2 with h2 | ⟨g, cap, cur, h1, h2, h3, h4⟩
  · exact .inl h2
  · refine .inr ⟨g, cap, cur, h1, h2, ?_, h4⟩
    rw [hb g (by rw [h1]; rfl)]
    exact h3
theorem Ap.below {w0 w w' : World} {p d N : Nat} {F : Nat → Prop} {s : St} {A B : List Str} {x y : Value} (h : Ap w0 w p d F N s A B x y) (hb : Below w.heap.size w w') : Ap w0 w' p d F N s A B x y :=
  ⟨h.ls.below hb, row_block h.a fun r hr => hb.block r (own_lt h.a r hr).2, row_block h.b fun r hr => hb.block r (own_lt h.b r hr).2, h.fa, h.fb, h.ab⟩
/-- Behind a call of the store. -/
theorem Ap.mv {w0 w w' : World} {p d N N' : Nat} {F : Nat → Prop} {s s' : St} {A B : List Str} {x y : Value} (h : Ap w0 w p d F N s A B x y) (k : Ls w0 w w' p d N' F s') : ∃ F', Ap w0 w' p d F' N' s' A B x y := by
  obtain ⟨⟨F', h', hF'⟩, fr⟩ := k
  refine ⟨F', h', row_block h.a fun r hr => fr.block r (own_lt h.a r hr).2 (h.fa r hr).1, row_block h.b fun r hr => fr.block r (own_lt h.b r hr).2 (h.fb r hr).1, fun r hr => ⟨fun hf => ?_, (h.fa r hr).2⟩, fun r hr => ⟨fun hf => ?_, (h.fb r hr).2⟩, h.ab⟩
  · have := (own_lt h.a r hr).2
    rcases hF' r hf with q | q
    · exact (h.fa r hr).1 q
    · omega
  · have := (own_lt h.b r hr).2
    rcases hF' r hf with q | q
    · exact (h.fb r hr).1 q
    · omega
theorem LS.grown {w0 w w' : World} {p d N : Nat} {F : Nat → Prop} {s : St} {r : Option Nat} (h : LS w0 w p d F N s) (g : w.grownBy w' r) (hr : ∀ j, r = some j → w0.heap.size ≤ j ∧ ¬ F j ∧ j ≠ p) : LS w0 w' p d F N s := by
  have hf : Fr (fun i => r = some i) w w' := Fr.of_grown g fun j hj => .inl hj
  exact ⟨h.dk.other hf fun i hi hq => (hr i hq).2.1 hi, h.sr.fr hf fun q => (hr p q).2.2 rfl, h.np, h.F0, h.p0, h.bel.trans (hf.below h.bel.size fun i hi => (hr i hi).1)⟩
theorem Ap.appa {w0 w w' : World} {p d N : Nat} {F : Nat → Prop} {s : St} {A B : List Str} {x y v : Value} {t : Str} (h : Ap w0 w p d F N s A B x y) (o : w'.ownsRow w0.heap.size 9 1 v (A.length + 1) (sv A ++ [Value.string ⟨t.toArray⟩])) (g : w.grownBy w' x.ownBlock) (hv : v.ownBlock = x.ownBlock ∨ ∃ g, v.ownBlock = some g ∧ w.heap.size ≤ g) : Ap w0 w' p d F N s (A ++ [t]) B v y := by
  have hx : ∀ j, x.ownBlock = some j → w0.heap.size ≤ j ∧ ¬ F j ∧ j ≠ p := fun j hj => ⟨(own_lt h.a j hj).1, h.fa j hj⟩
  refine ⟨h.ls.grown g hx, by rw [List.length_append, sv_append]; exact o, row_block h.b fun r hr => g.block r (own_lt h.b r hr).2 fun q => h.ab r q.symm hr, fun r hr => ?_, h.fb, fun r hr q => ?_⟩
  · rcases hv with e | ⟨g1, e, hg⟩
    · rw [e] at hr
      exact h.fa r hr
    · have e2 : g1 = r := by rw [e] at hr; injection hr
      subst e2
      have hp := h.ls.plt
      exact ⟨fun hf => by have := h.ls.dk.lt _ hf; omega, by omega⟩
  · rcases hv with e | ⟨g1, e, hg⟩
    · rw [e] at hr
      exact h.ab r hr q
    · have e2 : g1 = r := by rw [e] at hr; injection hr
      subst e2
      have := (own_lt h.b _ q).2
      omega
theorem Ap.swap {w0 w : World} {p d N : Nat} {F : Nat → Prop} {s : St} {A B : List Str} {x y : Value} (h : Ap w0 w p d F N s A B x y) : Ap w0 w p d F N s B A y x := ⟨h.ls, h.b, h.a, h.fb, h.fa, fun r hr q => h.ab r q hr⟩
theorem Ap.appb {w0 w w' : World} {p d N : Nat} {F : Nat → Prop} {s : St} {A B : List Str} {x y v : Value} {t : Str} (h : Ap w0 w p d F N s A B x y) (o : w'.ownsRow w0.heap.size 9 1 v (B.length + 1) (sv B ++ [Value.string ⟨t.toArray⟩])) (g : w.grownBy w' y.ownBlock) (hv : v.ownBlock = y.ownBlock ∨ ∃ g, v.ownBlock = some g ∧ w.heap.size ≤ g) : Ap w0 w' p d F N s A (B ++ [t]) x v := (h.swap.appa o g hv).swap
theorem Ap.rows {w0 w : World} {p d N : Nat} {F : Nat → Prop} {s : St} {A B : List Str} {x y : Value} (h : Ap w0 w p d F N s A B x y) : Rds w x (sv A) ∧ Rds w y (sv B) :=
  ⟨Own.rds (e := 9) (base := w0.heap.size) (by unfold Own; rw [sv_length]; exact h.a), Own.rds (e := 9) (base := w0.heap.size) (by unfold Own; rw [sv_length]; exact h.b)⟩
set_option maxHeartbeats 800000 in
/-- is: whether a text is among some. -/
theorem is_any (w : World) (v : Value) (ts : List Str) (x : Str) (h : Rds w v (sv ts)) (hl : ts.length ≤ 100000) :
    Calls Try.prog 29 #[v, .string ⟨x.toArray⟩] w fun e w' => e = .returned (.bool (decide (x ∈ ts))) ∧ w' = w := by
  obtain ⟨a, c, rfl, hc1, hc2, hcs⟩ := h.len
  have HC : Aside (0 < ts.length → ∃ b o, a = some ⟨b, o, none⟩ ∧ ∀ i (hi : i < ts.length), w.cell? ⟨b, o + i, none⟩ = some (.string ⟨ts[i].toArray⟩)) := hcs
  obtain ⟨n, hn⟩ : ∃ n, n = ts.length := ⟨_, rfl⟩
  have HN : Hid (n = ts.length) := hn
  rw [← hn] at hc1 hl ⊢
  unfold maxLen at hc2
  clear h hcs hn
  go_enter Try.func29, Try.ntmps29
  go_wp2_with fail
  go_loop [5] (fun i => ∃ k : Nat, k ≤ n ∧ i = .int .i64 k ∧ Hid (∀ i (hi : i < ts.length), i < k → ts[i] ≠ x)) (fun i => n - (intOf i).toNat)
  case atStart => exact ⟨0, by omega, rfl, fun i _ hi => by omega⟩
  case round =>
    obtain ⟨k, hk, rfl, HA⟩ := hrel
    by_cases hlt : k < n
    · have hltz : (k : Int) < (n : Int) := by omega
      have hkl : k < ts.length := by have := HN.out; omega
      obtain ⟨b, o, rfl, hx⟩ := HC.out (by omega)
      have c0 := hx k hkl
      have HKM : Hid (ts[k] ∈ ts) := List.getElem_mem hkl
      obtain ⟨t, ht⟩ : ∃ t, t = ts[k] := ⟨_, rfl⟩
      rw [← ht] at c0 HKM
      have HT : Hid (t = ts[k]'hkl) := ht
      have hw1 : wrap64 ((k : Int) + 1) = (k : Int) + 1 := by rw [← IntWalk.i64_left, IntKind.wrap_i64]; omega
      clear hx ht
      by_cases he : t = x
      · have he2 : (t == x) = true := by simpa using he
        subst he
        go_wp2_with fail
        go_ret
        exact ⟨by rw [decide_eq_true HKM.out]; rfl, rfl⟩
      · have he2 : (t == x) = false := by simpa using he
        have HNE : Hid (¬ t = x) := he
        clear he
        go_wp2_with fail
        go_round
        case rel =>
          refine ⟨k + 1, by omega, by first | (rw [hw1]; rfl) | go_num, fun i hi hik => ?_⟩
          by_cases e : i = k
          · subst e
            rw [← HT.out]
            exact HNE.out
          · exact HA.out i hi (by omega)
        case measure => simp [intOf]; omega
    · have hltz : ¬ (k : Int) < (n : Int) := by omega
      go_wp2_with fail
      go_ret
      have hno : ¬ x ∈ ts := fun hm => by
        obtain ⟨i, hi, e⟩ := List.getElem_of_mem hm
        exact HA.out i hi (by have := HN.out; omega) e
      exact ⟨by rw [decide_eq_false hno]; rfl, rfl⟩
end Go.Proofs.Ythegdhbmfojdaaa
