/- The contract of Build. -/
import Derived.Test.YtfhldldcfdimhaaBuild0
namespace Go.Proofs.Ytfhldldcfdimhaa
open Go.RowKit Go.Shelf Go.Sort

/-- Texts that may be in a dictionary. -/
def okT (ts : List Str) : Prop := (∀ t ∈ ts, t.length ≤ 64) ∧ (uniq ts).length ≤ 4096
theorem Try.tooLong_pred (w : World) : PredAt Try.prog 23 #[] (fun t : Str => Value.string ⟨t.toArray⟩) (fun t => decide (64 < t.length)) w := fun W t _ =>
  (tooLong_any W t).mono fun _ _ ⟨he, hw⟩ => ⟨he, 0, hw⟩
theorem contains_any (w : World) (v : Value) (ts : List Str) (h : Rds w v (sv ts)) :
    Calls Try.prog 22 #[v, .func (.func 23) #[] #[]] w fun e w' => e = .returned (.bool (ts.any fun t => decide (64 < t.length))) ∧ ∃ q, w' = w.drewN q := by
  obtain ⟨ao, n, cap, rfl⟩ : ∃ ao n cap, v = .slice ao n cap := by obtain ⟨ao, cap, rfl, _⟩ := h; exact ⟨_, _, _, rfl⟩
  obtain ⟨rfl, h1, h2, h3⟩ := h.cells
  simp only [sv_length] at *
  unfold maxLen at h2
  by_cases h0 : 0 < ts.length
  · obtain ⟨b, off, rfl, hc⟩ := h3 h0
    have := Try.slices_ContainsFunc (fun t : Str => Value.string ⟨t.toArray⟩) (fun t => decide (64 < t.length)) 23 #[] (enters_of Try.func23 (by kernel_rfl) rfl) b off ts.length cap ts w (Try.tooLong_pred w) (Nat.le_refl _) (by omega)
      (fun j hj => by
        rw [hc j _ (sv_get ts j hj), getD_at hj, getElem!_pos ts j hj])
    rwa [List.take_of_length_le (Nat.le_refl _)] at this
  · obtain rfl : ts = [] := List.eq_nil_of_length_eq_zero (by omega)
    refine (Try.slices_ContainsFunc_empty (α := Str) ao cap _ w).mono ?_
    rintro e w' ⟨rfl, rfl⟩
    exact ⟨rfl, 0, rfl⟩
theorem any_iff (ts : List Str) : (ts.any fun t => decide (64 < t.length)) = true ↔ ¬ ∀ t ∈ ts, t.length ≤ 64 := by
  rw [List.any_eq_true]
  constructor
  · rintro ⟨t, ht, hl⟩ h
    have := h t ht
    simp at hl
    omega
  · intro h
    refine Classical.byContradiction fun x => h fun t ht => ?_
    refine Nat.le_of_not_lt fun hl => x ⟨t, ht, by simpa using hl⟩

set_option maxHeartbeats 1600000 in
theorem build_ok (w : World) (v : Value) (ts : List Str) (h : Rds w v (sv ts)) (hbig : ts.length * 16 ≤ 140737488355328) (hok : okT ts) :
    Calls Try.prog 10 #[v] w fun e w' => ∃ p, e = .returned (.tuple #[p, .int .i64 0]) ∧ IDict w' p (uniq ts) ∧ Below w.heap.size w w' := by
  have hc := contains_any w v ts h
  have ha : (ts.any fun t => decide (64 < t.length)) = false := by
    rw [← Bool.not_eq_true, any_iff]
    exact fun x => x hok.1
  rw [ha] at hc
  have hul := hok.2
  have huf : ∀ t ∈ uniq ts, t.length ≤ 64 := fun t ht => hok.1 t (((uniq_facts ts).2 t).1 ht)
  have hul' : ¬ (4096 : Int) < ((uniq ts).length : Int) := by omega
  go_enter Try.func10, Try.ntmps10
  go_wp2_with fail
  refine hc.mono ?_
  rintro e w1 ⟨rfl, q, rfl⟩
  have hb1 : Below w.heap.size w (w.drewN q) := below_dN (Below.refl _ _) q
  have r1 := h.below hb1
  go_wp2_with fail
  refine (clone_any (w.drewN q) v ts r1 hbig).mono ?_
  rintro e w2 ⟨v2, rfl, o2, n2, b2⟩
  go_wp2_with fail
  refine (sort_any w2 (w.drewN q).heap.size v2 ts o2 n2 b2.size (by omega)).mono ?_
  rintro e w3 ⟨rfl, o3, b3⟩
  have n3 : v2 = .slice none 0 0 → srt ts = [] := fun x => by rw [n2 x]; simp [srt]
  go_wp2_with fail
  refine (compact_any w3 (w.drewN q).heap.size v2 (srt ts) o3 n3 (by rw [srt_length]; omega)).mono ?_
  rintro e w4 ⟨v4, rfl, o4, b4⟩
  have e4 : Lib.compact (srt ts) = uniq ts := rfl
  rw [e4] at o4
  obtain ⟨ao, n, cap, rfl⟩ : ∃ ao n cap, v4 = .slice ao n cap := by obtain ⟨ao, cap, hv, _⟩ := o4.rds; exact ⟨_, _, _, hv⟩
  have hn := o4.rds.cells.1
  rw [sv_length] at hn
  subst hn
  have b14 : Below w.heap.size w w4 := hb1.trans (b2.trans (b3.trans b4))
  go_wp2_with fail
  refine (copied_any w4 _ (uniq ts) o4.rds hul huf).mono ?_
  rintro e w5 ⟨v5, rfl, o5, b5⟩
  obtain ⟨ao5, n5, cap5, rfl⟩ : ∃ ao n cap, v5 = .slice ao n cap := by obtain ⟨ao, cap, hv, _⟩ := o5.rds; exact ⟨_, _, _, hv⟩
  go_wp2_with fail
  go_ret2
  have b5' : Below w.heap.size w w5 := b14.trans (b5.mono b14.size)
  refine ⟨_, rfl, ⟨⟨w5.heap.size, _, rfl, cell_new_sl w5 _ _, ?_⟩, (uniq_facts ts).1, hul, huf⟩, b5'.alloc b5'.size _⟩
  exact o5.rds.below ((Below.refl _ _).alloc (Nat.le_refl _) _)
set_option maxHeartbeats 1600000 in
theorem build_bad (w : World) (v : Value) (ts : List Str) (h : Rds w v (sv ts)) (hbig : ts.length * 16 ≤ 140737488355328) (hok : ¬ okT ts) :
    Calls Try.prog 10 #[v] w fun e w' => e = .returned (.tuple #[.pointer none, .int .i64 1]) ∧ Below w.heap.size w w' := by
  have hc := contains_any w v ts h
  by_cases hl : ∀ t ∈ ts, t.length ≤ 64
  · have ha : (ts.any fun t => decide (64 < t.length)) = false := by
      rw [← Bool.not_eq_true, any_iff]
      exact fun x => x hl
    rw [ha] at hc
    have hul : 4096 < (uniq ts).length := Nat.lt_of_not_le fun x => hok ⟨hl, x⟩
    have hul' : (4096 : Int) < ((uniq ts).length : Int) := by omega
    have hull := uniq_length_le ts
    go_enter Try.func10, Try.ntmps10
    go_wp2_with fail
    refine hc.mono ?_
    rintro e w1 ⟨rfl, q, rfl⟩
    have hb1 : Below w.heap.size w (w.drewN q) := below_dN (Below.refl _ _) q
    have r1 := h.below hb1
    go_wp2_with fail
    refine (clone_any (w.drewN q) v ts r1 hbig).mono ?_
    rintro e w2 ⟨v2, rfl, o2, n2, b2⟩
    go_wp2_with fail
    refine (sort_any w2 (w.drewN q).heap.size v2 ts o2 n2 b2.size (by omega)).mono ?_
    rintro e w3 ⟨rfl, o3, b3⟩
    have n3 : v2 = .slice none 0 0 → srt ts = [] := fun x => by rw [n2 x]; simp [srt]
    go_wp2_with fail
    refine (compact_any w3 (w.drewN q).heap.size v2 (srt ts) o3 n3 (by rw [srt_length]; omega)).mono ?_
    rintro e w4 ⟨v4, rfl, o4, b4⟩
    have e4 : Lib.compact (srt ts) = uniq ts := rfl
    rw [e4] at o4
    obtain ⟨ao, n, cap, rfl⟩ : ∃ ao n cap, v4 = .slice ao n cap := by obtain ⟨ao, cap, hv, _⟩ := o4.rds; exact ⟨_, _, _, hv⟩
    have hn := o4.rds.cells.1
    rw [sv_length] at hn
    subst hn
    have b14 : Below w.heap.size w w4 := hb1.trans (b2.trans (b3.trans b4))
    go_wp2_with fail
    go_ret2
    exact ⟨rfl, b14⟩
  · have ha : (ts.any fun t => decide (64 < t.length)) = true := (any_iff ts).2 hl
    rw [ha] at hc
    go_enter Try.func10, Try.ntmps10
    go_wp2_with fail
    refine hc.mono ?_
    rintro e w1 ⟨rfl, q, rfl⟩
    have hb1 : Below w.heap.size w (w.drewN q) := below_dN (Below.refl _ _) q
    go_wp2_with fail
    go_ret2
    exact ⟨rfl, hb1⟩
end Go.Proofs.Ytfhldldcfdimhaa
