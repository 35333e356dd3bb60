/- The reference's disk: Append, New. -/
import Derived.Test.YthegdhbmfojdaaaRf9
namespace Go.Proofs.Ythegdhbmfojdaaa
open Go.RowKit Go.Maps Go.Sort
set_option linter.unusedVariables false

/-- A file's row grew, in place or not, and is stored. -/
theorem RZ.grow {w w1 : World} {r N M g cap : Nat} {F : Nat → Prop} {s : RSt} {Z : List RE} (h : RZ w r F N s (.slice (some ⟨g, 0, none⟩) Z.length cap) Z) (i : Nat) (hi : i < Z.length) (v1 : Value) (bs : Str) (hg : w.grownBy w1 Z[i].v.ownBlock) (ho : Owns w1 0 v1 bs) (hv : v1.ownBlock = Z[i].v.ownBlock ∨ ∃ b, v1.ownBlock = some b ∧ w.heap.size ≤ b) (hk : Z[i].sy ≤ bs.length) (hn : bs.length ≤ M) (hNM : N ≤ M) :
    RZ (w1.setCell ⟨g, i * 3 + 1, none⟩ v1) r (fun j => F j ∨ v1.ownBlock = some j) M { s with fs := s.fs.set i ⟨Z[i].nm, bs, Z[i].sy⟩ } (.slice (some ⟨g, 0, none⟩) Z.length cap) (Z.set i ⟨Z[i].nm, v1, bs, Z[i].sy⟩) := by
  have hm := List.getElem_mem hi
  have qo := (h.e _ hm).1
  have hgb : Z[i].v.ownBlock ≠ some g := fun q => h.lob qo g q rfl
  have hrb : Z[i].v.ownBlock ≠ some r := h.xr qo
  have hne : ∀ j, j ≠ g → (w1.setCell ⟨g, i * 3 + 1, none⟩ v1).heap[j]? = w1.heap[j]? := fun j hj => Below.heap_setCell _ _ _ _ hj
  have hlo1 : w1.ownsRow 0 79 3 (.slice (some ⟨g, 0, none⟩) Z.length cap) Z.length (rcs Z) := rowk_block h.lo fun b q => hg.block b (h.lt b (h.fl b q)) fun k => by
    have e : some g = some b := q
    injection e with e
    subst e
    exact hgb k.symm
  have hby : ∀ (x : Value) (l : Str), Owns w1 0 x l → ∀ b, x.ownBlock = some b → b ≠ g := fun x l hx b hb e => by
    subst e
    rcases hlo1.2 with ⟨q, _⟩ | ⟨g', c', cur, q, q2, q3, _⟩
    · cases q
    · injection q with q _ _
      injection q with q
      injection q with q
      subst q
      rcases hx.2 with ⟨q', _⟩ | ⟨g2, c2, cur2, q', _, q4, _⟩
      · rw [q'] at hb; cases hb
      · rw [q'] at hb
        injection hb with hb
        have hb' : g2 = b := hb
        rw [hb', q3] at q4
        simp at q4
  have hoth : ∀ j (hj : j < Z.length), j ≠ i → Owns w1 0 Z[j].v Z[j].bs := fun j hj hji => by
    refine owns_block (h.e _ (List.getElem_mem hj)).1 fun b hb => hg.block b (h.lt b ((h.e _ (List.getElem_mem hj)).2.1 b hb)) fun k => ?_
    have ap := List.pairwise_iff_getElem.1 h.ap
    rcases Nat.lt_or_gt_of_ne hji with q | q
    · exact ap j i hj hi q b hb k.symm
    · exact ap i j hi hj q b k.symm hb
  have hset : ∀ x ∈ Z.set i ⟨Z[i].nm, v1, bs, Z[i].sy⟩, x = ⟨Z[i].nm, v1, bs, Z[i].sy⟩ ∨ ∃ (j : Nat) (hj : j < Z.length), j ≠ i ∧ x = Z[j] := fun x hx => by
    obtain ⟨j, hj, e⟩ := List.getElem_of_mem hx
    rw [List.getElem_set] at e
    split at e
    · exact .inl e.symm
    · rename_i q
      exact .inr ⟨j, by rw [List.length_set] at hj; exact hj, fun k => q k.symm, e.symm⟩
  have hvn : ∀ j (hj : j < Z.length), j ≠ i → ∀ c, v1.ownBlock = some c → Z[j].v.ownBlock ≠ some c := fun j hj hji c hc q => by
    rcases hv with k | ⟨b, k, hb⟩
    · have ap := List.pairwise_iff_getElem.1 h.ap
      rw [k] at hc
      rcases Nat.lt_or_gt_of_ne hji with p | p
      · exact ap j i hj hi p c q hc
      · exact ap i j hi hj p c hc q
    · rw [k] at hc
      injection hc with hc
      subst hc
      have := h.lt b ((h.e _ (List.getElem_mem hj)).2.1 b q)
      omega
  have hself : (rcs Z).set (i * 3 + 2) (.int .i64 (Z[i].sy : Int)) = rcs Z := by
    have hlt : i * 3 + 2 < (rcs Z).length := by rw [rcs_len]; omega
    have e : (rcs Z)[i * 3 + 2] = .int .i64 (Z[i].sy : Int) := by
      have := rcs_get Z i hi 2 (by omega)
      rw [List.getElem?_eq_getElem hlt] at this
      have h2 : (Z[i].cs)[2]? = some (.int .i64 (Z[i].sy : Int)) := rfl
      rw [h2] at this
      injection this
    rw [← e]
    simp
  refine ⟨?_, .inl h.f, ?_, fun b hb => .inl (h.fl b hb), fun x hx => ?_, ?_, ?_, fun x hx => ?_, by rw [List.length_set]; exact h.few, h.nn, fun j hj => ?_⟩
  · have := h.b
    unfold BxA at this ⊢
    rw [hne r h.rg, hg.block r (h.lt r h.f) fun k => hrb k.symm]
    exact this
  · rw [List.length_set, rcs_set Z i hi, List.set_comm _ _ (by omega), hself]
    exact (World.ownsRow.stored hlo1 (i * 3 + 1) v1).1
  · rcases hset x hx with rfl | ⟨j, hj, hji, rfl⟩
    · exact ⟨owns_block ho fun b hb => hne b (hby v1 bs ho b hb), fun b hb => .inr hb, hk⟩
    · have q1 := hoth j hj hji
      exact ⟨owns_block q1 fun b hb => hne b (hby _ _ q1 b hb), fun b hb => .inl ((h.e _ (List.getElem_mem hj)).2.1 b hb), (h.e _ (List.getElem_mem hj)).2.2⟩
  · rw [List.pairwise_iff_getElem]
    intro a b ha hb hab
    rw [List.length_set] at ha hb
    have ap := List.pairwise_iff_getElem.1 h.ap
    rw [List.getElem_set, List.getElem_set]
    split
    · rename_i q
      subst q
      rw [if_neg (by omega)]
      exact fun c hc => hvn b hb (by omega) c hc
    · split
      · rename_i q1 q
        subst q
        exact fun c hc k => hvn a ha (by omega) c k hc
      · exact ap a b ha hb hab
  · rw [List.map_set, h.fs]
    rfl
  · rcases hset x hx with rfl | ⟨j, hj, hji, rfl⟩
    · exact hn
    · exact Nat.le_trans (h.nb _ (List.getElem_mem hj)) hNM
  · have hs : (w1.setCell ⟨g, i * 3 + 1, none⟩ v1).heap.size = w1.heap.size := by simp
    rw [hs]
    rcases hj with hj | hj
    · exact Nat.lt_of_lt_of_le (h.lt j hj) hg.size
    · exact (own_lt ho j hj).2
theorem RZ.more {w : World} {r N M : Nat} {F : Nat → Prop} {s : RSt} {Lv : Value} {Z : List RE} (h : RZ w r F N s Lv Z) (hM : N ≤ M) : RZ w r F M s Lv Z := ⟨h.b, h.f, h.lo, h.fl, h.e, h.ap, h.fs, fun x hx => Nat.le_trans (h.nb x hx) hM, h.few, h.nn, h.lt⟩
def rst0 : RSt := ⟨[], false, 0, -1, 0⟩
theorem refnew_any (w : World) : Calls Try.prog 11 #[] w fun e w' => e = .returned (.pointer (some ⟨w.heap.size, 0, none⟩)) ∧ Rd w' w.heap.size (fun i => i = w.heap.size) 0 rst0 ∧ Below w.heap.size w w' := by
  go_enter Try.func11, Try.ntmps11
  go_wp2_with fail
  go_ret
  refine ⟨rfl, ⟨.slice none 0 0, [], BxA.new _ _ _, rfl, ⟨rfl, .inl ⟨rfl, rfl⟩⟩, (fun b q => by cases q), (fun x hx => by cases hx), .nil, rfl, (fun x hx => by cases hx), by simp, by show (0 : Nat) ≤ 1000000; omega, fun i hi => by rw [hi]; simp⟩, (Below.refl _ _).alloc (Nat.le_refl _) _⟩
/-- One more file that has nothing. -/
theorem put_opn {l : List Fl} (h : Srt l) {t : Str} (hh : hasF l t = false) {A B : List Fl} (hAB : l = A ++ B) (hB : ∀ q ∈ B, t < q.nm) (hA : ∀ a, A.getLast? = some a → ¬ t < a.nm) : A ++ ⟨t, [], 0⟩ :: B = srtF (opnF l t) := by
  apply SP.eq
  obtain ⟨h1, h2⟩ := Srt.put (x := ⟨t, [], 0⟩) (by rw [← hAB]; exact h) hB hA (fun y hy => hasF_noR.1 hh y (by rw [hAB]; exact hy))
  refine ⟨h1, h2.trans ?_⟩
  unfold opnF
  rw [hh, ← hAB]
  exact (List.perm_append_comm (l₁ := [⟨t, [], 0⟩]) (l₂ := l))
theorem opn_same {l : List Fl} (h : Srt l) {t : Str} (hh : hasF l t = true) : l = srtF (opnF l t) := by
  apply SP.eq
  unfold opnF
  rw [hh]
  exact ⟨h, List.Perm.refl _⟩
theorem opn_nd {l : List Fl} (h : NdR l) (t : Str) : NdR (opnF l t) := by
  unfold opnF
  cases hh : hasF l t with
  | true => exact h
  | false =>
    unfold NdR at h ⊢
    rw [if_neg (by simp), List.pairwise_append]
    refine ⟨h, by simp, fun a ha b hb => ?_⟩
    simp only [List.mem_singleton] at hb
    rw [hb]
    exact hasF_noR.1 hh a ha
theorem add_srt {l : List Fl} (h : NdR l) {t b : Str} {i : Nat} {f : Fl} (hi : (srtF (opnF l t))[i]? = some f) (hf : f.nm = t) : (srtF (opnF l t)).set i ⟨f.nm, f.bs ++ b, f.sy⟩ = srtF (addF (opnF l t) t b) := by
  have k := srtF_sp (opn_nd h t)
  apply SP.eq
  have e := map_atR k.srt.nd hi (fun x => ⟨x.nm, x.bs ++ b, x.sy⟩)
  have e' : (srtF (opnF l t)).set i ⟨f.nm, f.bs ++ b, f.sy⟩ = addF (srtF (opnF l t)) t b := by
    rw [← e]
    unfold addF
    rw [hf]
  rw [e']
  refine ⟨srt_map k.srt _ fun f => ?_, k.pm.map _⟩
  split <;> rfl
end Go.Proofs.Ythegdhbmfojdaaa
