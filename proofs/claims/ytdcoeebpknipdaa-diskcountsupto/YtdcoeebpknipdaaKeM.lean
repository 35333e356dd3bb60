/- What is left behind a cut, said without memory. No walk stands here. -/
import Derived.Test.YtdcoeebpknipdaaPlM
namespace Go.Proofs.Ytdcoeebpknipdaa
open Go.RowKit Go.Maps Go.Sort

theorem byt_at {l : List Fl} (h : Nd l) {f : Fl} (hf : f ∈ l) : bytF l f.nm = f.bs := by
  unfold bytF gotF
  induction l with
  | nil => cases hf
  | cons a l ih =>
    obtain ⟨h1, h2⟩ := List.pairwise_cons.1 h
    rcases List.mem_cons.1 hf with rfl | hf
    · simp
    · have : (a.nm == f.nm) = false := by simpa using h1 f hf
      simp only [List.filter_cons, this, Bool.false_eq_true, if_false]
      exact ih h2 hf
theorem nm_ok {l : List Fl} (h : Nms l) {f : Fl} (hf : f ∈ l) : isNm f.nm = true ∧ f.nm.length ≤ maxLen := by
  have := h.in' f hf
  simp only [nmL, List.mem_cons, List.not_mem_nil, or_false] at this
  unfold maxLen
  rcases this with e | e | e | e | e <;> rw [e] <;> exact ⟨by decide +kernel, by decide⟩
/-- The disk with the power on again. -/
def St.on (s : St) : St := { s with off := false }
theorem read_at {s : St} (ho : s.off = false) (h : Nms s.fs) {f : Fl} (hf : f ∈ s.fs) : rfF s f.nm [] = 0 ∧ rdC s f.nm = f.bs := by
  have h1 : rfF s f.nm [] = 0 := rfF_yes ho (by simp [(nm_ok h hf).1]) (hasF_yes.2 ⟨f, hf, rfl⟩)
  refine ⟨h1, ?_⟩
  unfold rdC
  rw [h1, if_pos rfl]
  exact byt_at h.nd hf
theorem cut_fs {s : St} (ho : s.off = false) (part : Int) : (s.cut part).fs = s.fs.map (cutF part) ∧ (s.cut part).off = true ∧ (s.cut part).ops = s.ops := by
  unfold St.cut
  rw [ho]
  exact ⟨rfl, rfl, rfl⟩
theorem cut_nms {l : List Fl} (h : Nms l) (part : Int) : Nms (l.map (cutF part)) := nms_map h _ fun _ => rfl
theorem cut_read {s : St} (ho : s.off = false) (h : Nms s.fs) (part : Int) {f : Fl} (hf : f ∈ s.fs) : rfF (s.cut part).on f.nm [] = 0 ∧ rdC (s.cut part).on f.nm = f.bs.take (cutK part f.bs.length f.sy) := by
  have e : (s.cut part).on.fs = s.fs.map (cutF part) := (cut_fs ho part).1
  have hm : Nms (s.cut part).on.fs := by rw [e]; exact cut_nms h part
  have := read_at (s := (s.cut part).on) rfl hm (f := cutF part f) (by rw [e]; exact List.mem_map.2 ⟨f, hf, rfl⟩)
  exact this
theorem lst_len {s : St} (ho : s.off = false) : (lstN s []).length = s.fs.length := by
  unfold lstN srt preN
  rw [ho]
  simp only [Bool.false_eq_true, if_false, List.length_mergeSort, List.length_map]
  have : (s.fs.filter fun f => Lib.hasPrefix f.nm []) = s.fs := List.filter_eq_self.2 fun f _ => by simp [Lib.hasPrefix]
  rw [this]
theorem sub_to {f : Fl} {part : Int} (hs : f.sy ≤ f.bs.length) : (part < (f.bs.length : Int) - (f.sy : Int) → (cutK part f.bs.length f.sy : Int) = (f.sy : Int) + max part 0) ∧ (¬ part < (f.bs.length : Int) - (f.sy : Int) → cutK part f.bs.length f.sy = f.bs.length) := by
  unfold cutK
  constructor <;> intro h <;> omega
end Go.Proofs.Ytdcoeebpknipdaa
