/- What is left behind two cuts, said without memory. No walk stands here. -/
import Derived.Test.YtdcoeebpknipdaaKeM
import Derived.Test.YtdcoeebpknipdaaSam
namespace Go.Proofs.Ytdcoeebpknipdaa
open Go.RowKit Go.Maps Go.Sort

theorem St.same {a b : St} (h : a.fs = b.fs) (o : a.off = b.off) (t : Str) : rfF a t [] = rfF b t [] ∧ rdC a t = rdC b t ∧ lstN a t = lstN b t := by
  have h1 : rfF a t [] = rfF b t [] := by unfold rfF rfC; rw [h, o]
  refine ⟨h1, ?_, ?_⟩
  · unfold rdC; rw [h1, h]
  · unfold lstN; rw [h, o]
theorem cut_twice (p q : Int) (f : Fl) : cutF q (cutF p f) = cutF p f := by
  unfold cutF
  simp only
  have : ∀ n : Nat, cutK q n n = n := fun n => by unfold cutK; omega
  have hl : (f.bs.take (cutK p f.bs.length f.sy)).length ≤ cutK p f.bs.length f.sy := by simp; omega
  obtain ⟨m, hm⟩ : ∃ m, m = cutK p f.bs.length f.sy := ⟨_, rfl⟩
  rw [← hm] at hl ⊢
  obtain ⟨l, hll⟩ : ∃ l, l = f.bs.take m := ⟨_, rfl⟩
  rw [← hll] at hl ⊢
  have h2 : cutK q l.length m = m := by unfold cutK; omega
  rw [h2, List.take_of_length_le hl]
theorem two_same {s : St} (ho : s.off = false) (p q : Int) : (((s.cut p).on).cut q).on.fs = (s.cut p).on.fs := by
  have e1 : (s.cut p).on.fs = s.fs.map (cutF p) := (cut_fs ho p).1
  have e2 : (((s.cut p).on).cut q).on.fs = (s.cut p).on.fs.map (cutF q) := (cut_fs (s := (s.cut p).on) rfl q).1
  rw [e2, e1, List.map_map]
  exact List.map_congr_left fun f _ => cut_twice p q f
theorem lst_mem {s : St} (ho : s.off = false) (h : Nms s.fs) {t : Str} (ht : t ∈ lstN s []) : rfF s t [] = 0 ∧ t.length ≤ maxLen := by
  unfold lstN srt preN at ht
  rw [ho] at ht
  simp only [Bool.false_eq_true, if_false] at ht
  have := (List.mergeSort_perm _ _).mem_iff.1 ht
  obtain ⟨f, hf, rfl⟩ := List.mem_map.1 this
  have hf' := (List.mem_filter.1 hf).1
  exact ⟨(read_at ho h hf').1, (nm_ok h hf').2⟩
theorem rd_len {w : World} {d N : Nat} {F : Nat → Prop} {s : St} (h : Dk w d F N s) (ho : s.off = false) (hm : Nms s.fs) {t : Str} (ht : t ∈ lstN s []) : (rdC s t).length ≤ N := by
  unfold lstN srt preN at ht
  rw [ho] at ht
  simp only [Bool.false_eq_true, if_false] at ht
  have := (List.mergeSort_perm _ _).mem_iff.1 ht
  obtain ⟨f, hf, rfl⟩ := List.mem_map.1 this
  have hf' := (List.mem_filter.1 hf).1
  rw [(read_at ho hm hf').2]
  exact h.len f hf'
end Go.Proofs.Ytdcoeebpknipdaa
