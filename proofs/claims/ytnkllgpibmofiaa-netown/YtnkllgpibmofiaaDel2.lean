/- slices.Delete of one at a row of pointers of one's own: the walk. -/
import Derived.Test.YtnkllgpibmofiaaDel
namespace Go.Proofs.Ytnkllgpibmofiaa
open Go.RowKit Go.Maps Go.Sort
set_option linter.unusedVariables false

theorem Try.info_pm : (Try.prog.info? 91).map (fun i => (i.zero, i.size, i.bytes)) = some (some (.pointer none), 1, 8) := by kernel_rfl
theorem zeroPm (w : World) : (zeroValue 91).run Try.prog w = .ok (.pointer none) w := Try.zeroValue91 w
theorem own_has {w : World} {e g n c : Nat} {xs : List Value} (h : w.ownsRow 0 e 1 (.slice (some ⟨g, 0, none⟩) (n + 1) c) (n + 1) xs) (hnc : n + 1 ≤ c) (o : Nat) (ho : o = n := by rfl) : ∀ j, j < 1 → (w.cell? ⟨g, o + j, none⟩).isSome = true := fun j hj => by
  have hl : xs.length = n + 1 := by have := h.1; omega
  have := World.ownsRow.cells h rfl n (xs[n]'(by omega)) (List.getElem?_eq_getElem _)
  rw [Addr.add_lit] at this
  have e : o + j = n := by omega
  rw [e]
  simp only [Nat.zero_add] at this
  rw [this]
  rfl
theorem own_fz {w : World} {e g n c : Nat} {xs : List Value} (h : w.ownsRow 0 e 1 (.slice (some ⟨g, 0, none⟩) n c) n xs) (o : Nat) : ∀ j, j < 1 → w.frozen? ⟨g, o + j, none⟩ = false := fun j hj => by
  rcases h.2 with ⟨h1, _⟩ | ⟨g', cap, cur, h1, hb, hg, _⟩
  · cases h1
  · cases h1; exact frozen_of_row w g _ _ _ hg
theorem own_cut {w : World} {e g n k c : Nat} {xs : List Value} (h : w.ownsRow 0 e 1 (.slice (some ⟨g, 0, none⟩) n c) n xs) (hk : k ≤ n) : w.ownsRow 0 e 1 (.slice (some ⟨g, 0, none⟩) k c) k (xs.take k) := by
  rcases h.2 with ⟨h1, _⟩ | ⟨g', cap, cur, h1, hb, hg, hnc, hcm, hcs, ht⟩
  · cases h1
  · cases h1
    have hl : xs.length = n := by have := h.1; omega
    refine ⟨by rw [List.length_take]; omega, .inr ⟨g, c, cur, rfl, hb, hg, by omega, hcm, hcs, ?_⟩⟩
    rw [← ht, List.take_take]
    congr 1
    omega
set_option maxRecDepth 20000 in
set_option maxHeartbeats 4000000 in
theorem del_any (w : World) (g c n i : Nat) (xs : List Value) (h : w.ownsRow 0 91 1 (.slice (some ⟨g, 0, none⟩) (n + 1) c) (n + 1) xs) (h1 : ∀ u ∈ xs, u.oneCell' = true) (hi : i < n + 1) (hn : n ≤ 1000000) :
    Calls Try.prog 37 #[.slice (some ⟨g, 0, none⟩) (n + 1) c, .int .i64 (i : Int), .int .i64 ((i : Int) + 1)] w fun e w' => e = .returned (.slice (some ⟨g, 0, none⟩) n c) ∧ w'.ownsRow 0 91 1 (.slice (some ⟨g, 0, none⟩) n c) n (xs.eraseIdx i) ∧ w.grownBy w' (some g) := by
  obtain ⟨i0, hi0, hz0, hz1, hz2⟩ := info_parts Try.info_pm
  have hlen : xs.length = n + 1 := by have := h.1; omega
  obtain ⟨hnc, hcm, hglt, hcell, hfree⟩ : n + 1 ≤ c ∧ c ≤ maxLen ∧ g < w.heap.size ∧ (∀ j u, xs[j]? = some u → w.cell? ⟨g, j, none⟩ = some u) ∧ (∀ j, w.frozen? ⟨g, j, none⟩ = false) := by
    rcases h.2 with ⟨h1, _⟩ | ⟨g', cap, cur, h1, hb, hg, hnc, hcm, _⟩
    · cases h1
    · cases h1
      refine ⟨hnc, hcm, (Array.getElem?_eq_some_iff.1 hg).1, fun j u hj => ?_, fun j => frozen_of_row w g j _ _ hg⟩
      have := World.ownsRow.cells h rfl j u hj
      rw [Addr.add_lit] at this
      simpa using this
  obtain ⟨news, hnews⟩ : ∃ news, news = xs.drop (i + 1) := ⟨_, rfl⟩
  have hnl : news.length = n - i := by rw [hnews, List.length_drop]; omega
  have hget : ∀ t u, news[t]? = some u → w.cell? ⟨g, i + 1 + t, none⟩ = some u := fun t u ht => hcell _ _ (by rw [hnews, List.getElem?_drop] at ht; exact ht)
  obtain ⟨A, hA, hsrc⟩ : ∃ A : Addr, (if c = i + 1 then (some ⟨g, 0, none⟩ : Option Addr) else some ⟨g, i + 1, none⟩) = some A ∧ Hid (∀ t u, news[t]? = some u → w.drew.cell? (A.add t) = some u) := by
    by_cases hc : c = i + 1
    · refine ⟨⟨g, 0, none⟩, by simp [hc], fun t u hu => ?_⟩
      have := (List.getElem?_eq_some_iff.1 hu).1
      omega
    · refine ⟨⟨g, i + 1, none⟩, by simp [hc], fun t u hu => ?_⟩
      rw [Addr.add_lit]
      exact hget t u hu
  have hA2 : A = ⟨g, 0, none⟩ ∧ c = i + 1 ∨ A = ⟨g, i + 1, none⟩ ∧ ¬ c = i + 1 := by
    by_cases hc : c = i + 1
    · left; rw [if_pos hc] at hA; injection hA with hA; exact ⟨hA.symm, hc⟩
    · right; rw [if_neg hc] at hA; injection hA with hA; exact ⟨hA.symm, hc⟩
  have HNL := hide hnl
  have HN1 : Hid (∀ u ∈ news, u.oneCell' = true) := hide fun u hu => h1 u (by rw [hnews] at hu; exact List.mem_of_mem_drop hu)
  have HC : Hid (∀ j, j < news.length → (w.drew.cell? ⟨g, i + j, none⟩).isSome = true) := hide fun j hj => by
    have : w.drew.cell? ⟨g, i + j, none⟩ = w.cell? ⟨g, i + j, none⟩ := rfl
    rw [this, hcell (i + j) (xs[i + j]'(by omega)) (List.getElem?_eq_getElem _)]
    rfl
  have HF : Hid (∀ j, j < news.length → w.drew.frozen? ⟨g, i + j, none⟩ = false) := hide fun j hj => hfree _
  have HRM : Hid (i + (n - i) ≤ c) := hide (by omega)
  have hsum : i + (n - i) = n := by omega
  have hset := own_setCells news i (w := w.drew) h
  have HSET := hide hset
  have HH := hide h
  have HNW := hide hnews
  have HLEN := hide hlen
  unfold maxLen at hcm
  have hz63 : c ≤ 9223372036854775807 := by omega
  clear h h1 hcell hfree hnl hget hA hset hnews hlen
  rcases hA2 with ⟨rfl, hc⟩ | ⟨rfl, hc⟩
  · obtain rfl : i = n := by omega
    subst hc
    have hiz : (i : Int) ≤ (i : Int) + 1 := by omega
    have hizz : (0 : Int) ≤ (i : Int) + 1 := by omega
    have HNL0 : Hid (news.length = 0) := hide (by have := HNL.out; omega)
    have HRM0 : Hid (i + 0 ≤ i + 1) := hide (by omega)
    go_enter Try.func37, Try.ntmps37
    go_wp2_with fail
    go_region_law (refine step_appR rfl (.tmp 22) (.tmp 25) 87 rfl 91 i0 Try.underlying87 hi0 hz1 g i (i + 1) _ 0 _ news rfl (by first | rfl | simp) HNL0.out hsrc.out HN1.out HRM0.out HC.out HF.out ?_; rw [Nat.add_zero]; generalize hW2 : w.drew.setCells g i news = W2 at *; have hclr : ∀ ty, (Builtin.clear_ #[87] ty #[.slice (some ⟨g, i, none⟩) 1 1]).run Try.prog W2 = .ok (.tuple #[]) (W2.setCells g i [.pointer none]) := (fun ty => Lib.run_clear_slice W2 87 91 ty (.pointer none) Try.underlying87 zeroPm rfl rfl g i 1 1 (by omega) (own_has HSET.out.1 hnc i) (own_fz HSET.out.1 i)))
    all_goals
      go_wp2_with fail
      go_ret
      have h2 := World.ownsRow.stored HSET.out.1 i (.pointer none)
      have h3 := own_cut h2.1 (Nat.le_succ i)
      rw [HNW.out, erase_eq xs i i (.pointer none) HLEN.out hi] at h3
      refine ⟨rfl, h3, ?_⟩
      have hg := grown_trans HSET.out.2 h2.2
      exact ⟨hg.os, hg.tape, hg.output, hg.size, hg.block⟩
  · have hci : ¬ c = i + 1 := hc
    clear hc
    have hiz : (i : Int) ≤ (c : Int) := by omega
    have hizz : (0 : Int) ≤ (i : Int) + 1 := by omega
    have hiz2 : (i : Int) + 1 ≤ (c : Int) := by omega
    have hiz3 : (i : Int) ≤ (n : Int) := by omega
    go_enter Try.func37, Try.ntmps37
    go_wp2_with fail
    go_region_law (refine step_appR rfl (.tmp 22) (.tmp 25) 87 rfl 91 i0 Try.underlying87 hi0 hz1 g i c _ (n - i) _ news rfl (by first | rfl | simp) HNL.out hsrc.out HN1.out HRM.out HC.out HF.out ?_; rw [hsum]; generalize hW2 : w.drew.setCells g i news = W2 at *; have hclr : ∀ ty, (Builtin.clear_ #[87] ty #[.slice (some ⟨g, n, none⟩) 1 (c - n)]).run Try.prog W2 = .ok (.tuple #[]) (W2.setCells g n [.pointer none]) := (fun ty => Lib.run_clear_slice W2 87 91 ty (.pointer none) Try.underlying87 zeroPm rfl rfl g n 1 (c - n) (by omega) (own_has HSET.out.1 hnc n) (own_fz HSET.out.1 n)))
    all_goals
      go_wp2_with fail
      go_ret
      have h2 := World.ownsRow.stored HSET.out.1 n (.pointer none)
      have h3 := own_cut h2.1 (Nat.le_succ n)
      rw [HNW.out, erase_eq xs i n (.pointer none) HLEN.out hi] at h3
      refine ⟨rfl, h3, ?_⟩
      have hg := grown_trans HSET.out.2 h2.2
      exact ⟨hg.os, hg.tape, hg.output, hg.size, hg.block⟩
end Go.Proofs.Ytnkllgpibmofiaa
