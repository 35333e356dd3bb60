/- Contracts of copied and Build. -/
import Derived.Test.YtfhldldcfdimhaaMade
namespace Go.Proofs.Ytfhldldcfdimhaa
open Go.RowKit Go.Shelf Go.Sort

set_option maxHeartbeats 1600000 in
theorem copied_any (w : World) (v : Value) (ts : List Str) (h : Rds w v (sv ts)) (hl : ts.length ≤ 4096) (hf : ∀ t ∈ ts, t.length ≤ 64) :
    Calls Try.prog 27 #[v] w fun e w' => ∃ v', e = .returned v' ∧ Own w' w.heap.size 9 v' (sv ts) ∧ Below w.heap.size w w' := by
  obtain ⟨ao, n, cap, rfl⟩ : ∃ ao n cap, v = .slice ao n cap := by obtain ⟨ao, cap, rfl, _⟩ := h; exact ⟨_, _, _, rfl⟩
  obtain ⟨rfl, h1, h2, h3⟩ := h.cells
  simp only [sv_length] at *
  obtain ⟨i0, hin, hz0, hz1, hz2⟩ := info_parts Try.info_str
  obtain ⟨n, hn⟩ : ∃ n, n = ts.length := ⟨_, rfl⟩
  rw [← hn] at hl h1 h3 ⊢
  have HN := hide hn
  clear hn h
  go_enter Try.func27, Try.ntmps27
  go_wp2_with (first
    | (at_make; refine wpList_make_full _ rfl _ _ 22 rfl w.heap.size 9 i0 (.string ⟨#[]⟩) 1 Try.underlying22 hin hz0 hz1 .i64 .i64 _ _ n rfl rfl (by omega) (by omega) (by rw [hz2]; omega) (by unfold maxLen; omega) (Nat.le_refl _) ?_; intro w0 hown0 hgrow0))
  have hb0 : Below w.heap.size w w0 := (Below.refl _ _).grown hgrow0 (Nat.le_refl _) (by simp)
  rw [made_sv] at hown0
  clear hgrow0
  go_loopw [11] (fun vi wr => ∃ i : Nat, vi = .int .i64 i ∧ i ≤ n ∧ wr.ownsRow w.heap.size 9 1 (.slice (some ⟨w.heap.size, 0, none⟩) n n) n (sv (mix ts i)) ∧ Below w.heap.size w wr) (fun vi _ => n - (intOf vi).toNat)
  case atStart => exact ⟨0, rfl, by omega, by unfold mix; rw [List.take_zero, List.nil_append, Nat.sub_zero, ← unhide HN]; exact hown0, hb0⟩
  case round =>
    obtain ⟨i, rfl, hi, hown, hbel⟩ := hrel
    by_cases hlt : i < n
    · have hlt' : (i : Int) < (n : Int) := by omega
      obtain ⟨b, off, rfl, hc⟩ := h3 (by omega)
      have hck := hc i _ (sv_get ts i (by rw [← unhide HN]; exact hlt))
      rw [← hbel.cell (World.block_lt_of_cell? _ _ hck)] at hck
      have htl : (ts.getD i []).length ≤ 64 := by
        rw [getD_at (by rw [← unhide HN]; exact hlt)]; exact hf _ (List.getElem_mem _)
      have hms := mix_set ts i (by rw [← unhide HN]; exact hlt)
      obtain ⟨t, ht⟩ : ∃ t, t = ts.getD i [] := ⟨_, rfl⟩
      rw [← ht] at hck htl hms
      have HMS := hide hms
      clear ht hms h3 hc
      go_wp2_with fail
      refine (sclone_any wr t htl).mono ?_
      rintro e w1 ⟨rfl, hb1⟩
      have hown1 : Own w1 w.heap.size 9 (.slice (some ⟨w.heap.size, 0, none⟩) n n) (sv (mix ts i)) := Own.below (w := wr) (by unfold Own; rw [sv_length, mix_length ts i (by rw [← unhide HN]; omega), ← unhide HN]; exact hown) hb1
      unfold Own at hown1
      rw [sv_length, mix_length ts i (by rw [← unhide HN]; omega), ← unhide HN] at hown1
      have hfz := hown1.frozenAt i
      have hst := hown1.stored i (.string ⟨t.toArray⟩)
      rw [← sv_set, unhide HMS] at hst
      have hb1' := hbel.trans (hb1.mono hbel.size)
      have hcc := hown1.cellAt i (by omega)
      rw [sv_get _ i (by rw [mix_length ts i (by rw [← unhide HN]; omega), ← unhide HN]; exact hlt)] at hcc
      generalize (mix ts i).getD i [] = old at hcc
      have HST := hide hst
      clear hst hown1 hown
      go_wp2_with fail
      go_roundw
      case rel => exact ⟨i + 1, by go_num, by omega, (unhide HST).1, hb1'.grown (unhide HST).2 hb1'.size (fun k hk => by cases hk; exact Nat.le_refl _)⟩
      case measure => simp [intOf]; omega
    · have hlt' : ¬ (i : Int) < (n : Int) := by omega
      have hin' : i = n := by omega
      subst hin'
      have e : mix ts i = ts := by unfold mix; rw [unhide HN]; simp
      rw [e] at hown
      go_wp2
      go_ret
      refine ⟨_, rfl, ?_, hbel⟩
      unfold Own
      rw [sv_length, ← unhide HN]
      exact hown
end Go.Proofs.Ytfhldldcfdimhaa
