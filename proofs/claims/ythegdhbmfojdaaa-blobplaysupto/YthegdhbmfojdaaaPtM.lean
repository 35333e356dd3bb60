/- What calls keep of the two disks. No walk stands here. -/
import Derived.Test.YthegdhbmfojdaaaRlS
namespace Go.Proofs.Ythegdhbmfojdaaa
open Go.RowKit Go.Maps Go.Sort
set_option linter.unusedVariables false

theorem rcut_pt (t : RSt) (p : Int) : (rcut t p).part = t.part ∧ (rcut t p).n = t.n := by unfold rcut; split <;> exact ⟨rfl, rfl⟩
theorem rcnt_pt (t : RSt) : (rcnt t).2.part = t.part ∧ (rcnt t).2.n = t.n + 1 := by
  unfold rcnt
  split
  · exact rcut_pt _ _
  · exact ⟨rfl, rfl⟩
theorem rapp_pt (t : RSt) (a b : Str) : (rapp t a b).2.part = t.part ∧ (rapp t a b).2.n ≤ t.n + 1 := by
  unfold rapp
  split
  · exact ⟨rfl, Nat.le_succ _⟩
  · split
    · exact ⟨rfl, Nat.le_succ _⟩
    · split
      · exact ⟨rfl, Nat.le_succ _⟩
      · have := rcnt_pt { t with fs := srtF (addF (opnF t.fs a) a b) }
        exact ⟨this.1, Nat.le_of_eq this.2⟩
theorem rsyn_pt (t : RSt) (a : Str) : (rsyn t a).2.part = t.part ∧ (rsyn t a).2.n ≤ t.n + 1 := by
  have := rcnt_pt t
  unfold rsyn
  split
  · exact ⟨rfl, Nat.le_succ _⟩
  · split
    · exact ⟨this.1, Nat.le_of_eq this.2⟩
    · exact ⟨this.1, Nat.le_of_eq this.2⟩
theorem rrem_pt (t : RSt) (a : Str) : (rrem t a).2.part = t.part ∧ (rrem t a).2.n ≤ t.n + 1 := by
  have := rcnt_pt t
  unfold rrem
  split
  · exact ⟨rfl, Nat.le_succ _⟩
  · split
    · exact ⟨this.1, Nat.le_of_eq this.2⟩
    · exact ⟨this.1, Nat.le_of_eq this.2⟩
theorem rren_pt (t : RSt) (a b : Str) : (rren t a b).2.part = t.part ∧ (rren t a b).2.n ≤ t.n + 1 := by
  have := rcnt_pt t
  unfold rren
  split
  · exact ⟨rfl, Nat.le_succ _⟩
  · split
    · exact ⟨this.1, Nat.le_of_eq this.2⟩
    · exact ⟨this.1, Nat.le_of_eq this.2⟩
def NmS (s : St) : Prop := ∀ f ∈ s.fs, isNm f.nm = true
theorem nms_cut {s : St} (h : NmS s) (p : Int) : NmS (s.cut p) := by
  unfold St.cut
  split
  · exact h
  · intro f hf
    obtain ⟨g, hg, rfl⟩ := List.mem_map.1 hf
    exact h g hg
theorem nms_count {s : St} (h : NmS s) : NmS s.count.2 := by
  unfold St.count
  split
  · exact nms_cut (s := s.tick) h _
  · exact h
theorem nms_begins {s : St} (h : NmS s) (a : Str) (ns : List Str) : NmS (s.begins a ns).2 := by
  unfold St.begins
  split
  · exact h
  · exact nms_count h
theorem nms_append {s : St} (h : NmS s) (a b : Str) : NmS (s.append a b).2 := by
  unfold St.append
  split
  · exact h
  · rename_i h1
    split
    · exact h
    · refine nms_count (s := { s with fs := addF (opnF s.fs a) a b }) ?_
      intro f hf
      obtain ⟨g, hg, rfl⟩ := List.mem_map.1 hf
      have hn : isNm a = true := by
        unfold rfC at h1
        cases hn : isNm a with
        | true => rfl
        | false => cases ho : s.off <;> simp [ho, hn] at h1
      have hgn : isNm g.nm = true := by
        unfold opnF at hg
        split at hg
        · exact h g hg
        · rcases List.mem_append.1 hg with q | q
          · exact h g q
          · rw [List.mem_singleton.1 q]; exact hn
      split <;> exact hgn
theorem nms_sync {s : St} (h : NmS s) (a : Str) : NmS (s.sync a).2 := by
  unfold St.sync
  split
  · exact nms_begins h _ _
  · intro f hf
    obtain ⟨g, hg, rfl⟩ := List.mem_map.1 hf
    have := nms_begins h a [] g hg
    split <;> exact this
theorem nms_remove {s : St} (h : NmS s) (a : Str) : NmS (s.remove a).2 := by
  unfold St.remove
  split
  · exact nms_begins h _ _
  · intro f hf
    exact nms_begins h a [] f (List.mem_filter.1 hf).1
theorem nms_rename {s : St} (h : NmS s) (a b : Str) : NmS (s.rename a b).2 := by
  unfold St.rename
  split
  · exact nms_begins h _ _
  · rename_i h1
    intro f hf
    have h0 : (s.begins a [b]).1 = 0 := by simpa using h1
    have hb := (begins_zero h0).2.2.2.1 b (List.mem_singleton.2 rfl)
    rcases List.mem_append.1 hf with q | q
    · exact nms_begins h a [b] f (List.mem_filter.1 (List.mem_filter.1 q).1).1
    · obtain ⟨g, hg, rfl⟩ := List.mem_map.1 q
      exact hb
end Go.Proofs.Ythegdhbmfojdaaa
