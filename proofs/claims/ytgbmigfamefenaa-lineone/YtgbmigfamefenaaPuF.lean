/- LineOne, said purely; how many pieces there are. No walk stands here. -/
import Derived.Test.YtgbmigfamefenaaCut
namespace Go.Proofs.Ytgbmigfamefenaa
open Go.Shelf Go.RowKit Go.Maps Go.Sort
set_option linter.unusedVariables false

theorem ck_few {s : List Es} {l : List Sg} (hs : Wf s) (hp : (sgs s).Perm l) (hf : ∀ g ∈ l, Few g) {k : K3} (hk : k ∈ CK s) : 0 ≤ k.1 ∧ k.2.1 ≤ 20 := by
  obtain ⟨g, hg, rfl, _⟩ := ck_seg hs hp hk
  have h := hf g hg
  have := h.f0
  have := h.f1
  have := h.t1
  exact ⟨by omega, by omega⟩
theorem cut_few {s : List Es} {l : List Sg} (hs : Wf s) (hp : (sgs s).Perm l) (hf : ∀ g ∈ l, Few g) {o : List S3} {a b : Int} (hc : Cut (CK s) o a b) : ∀ t ∈ o, 0 ≤ t.2.1 ∧ t.2.2 ≤ 20 := by
  intro t ht
  have h1 := hc.ne t ht
  have b1 := hc.is t ht t.2.1 (Int.le_refl _) h1
  have b2 := hc.is t ht (t.2.2 - 1) (by omega) (by omega)
  have k1 := ck_few hs hp hf b1.mem
  have l1 := b1.hl.1
  have l2 := b2.hl.2
  exact ⟨by omega, by omega⟩
theorem lk_len {s : List Es} {l : List Sg} (hs : Wf s) (hp : (sgs s).Perm l) (hf : ∀ g ∈ l, Few g) (hl : l.length ≤ 40) {o : List S3} {a b : Int} (hc : Cut (CK s) o a b) : (lkF s o).length ≤ 1000 := by
  have h1 := chn_len o 0 20 hc.ne hc.ch (cut_few hs hp hf hc)
  have h2 := lkF_lenO (s := s) (m := 40) (fun e he => by have := wf_parts (s := s) e he; have := hp.length_eq; omega) o
  omega
/-- What LineOne asks of a piece. -/
structure OneP (s : List Es) (l : List Sg) (a b : Int) (x : Pc) : Prop where
  there : x.1 ∈ l
  wh : whB l x.1 = true
  ne : x.2.1 < x.2.2
  lo : max a x.1.1.1 ≤ x.2.1
  hi : x.2.2 ≤ min b x.1.1.2.1
  no : ∀ y ∈ l, ¬ (y.1.1 < x.2.2 ∧ x.2.1 < y.1.2.1 ∧ Ahd y.1 x.1.1 ∧ whB l y = true)
def NxtP (y x : Pc) : Prop := (y.2 = x.2 ∧ y.1.1 = x.1.1 ∧ y.1.2.1 < x.1.2.1) ∨ y.2.2 ≤ x.2.1
theorem one_say {s : List Es} {l : List Sg} (hs : Wf s) (hp : (sgs s).Perm l) {o : List S3} {a b : Int} (hc : Cut (CK s) o a b) : (∀ x ∈ lkF s o, OneP s l a b x) ∧ (lkF s o).Pairwise NxtP := by
  constructor
  · intro x hx
    unfold lkF at hx
    obtain ⟨t, ht, hx⟩ := List.mem_flatMap.1 hx
    unfold pcs at hx
    obtain ⟨g, hg, rfl⟩ := List.mem_map.1 hx
    obtain ⟨hg1, hg2⟩ := (mem_sgsOf hs.nd).1 hg
    have h1 := hc.ne t ht
    have b1 := hc.is t ht t.2.1 (Int.le_refl _) h1
    have b2 := hc.is t ht (t.2.2 - 1) (by omega) (by omega)
    have hw := hc.wi t ht
    have l1 := b1.hl.1
    have l2 := b2.hl.2
    have hgl := hp.mem_iff.1 hg1
    refine ⟨hgl, (wh_iff hs hp hgl).2 (by rw [hg2]; exact b1.mem), h1, ?_, ?_, ?_⟩
    · simp only; rw [hg2]; omega
    · simp only; rw [hg2]; omega
    · rintro y hy ⟨q1, q2, q3, q4⟩
      simp only at q1 q2 q3
      rw [hg2] at q3
      have hf := (wh_iff hs hp hy).1 q4
      obtain ⟨e, he, hek, _⟩ := mem_CK.1 hf
      have hne := (hs.ok e he).ne
      rw [hek] at hne
      have bz := hc.is t ht (max y.1.1 t.2.1) (by omega) (by omega)
      rcases bz.top y.1 hf ⟨by omega, by omega⟩ with r | r
      · rw [r] at q3; exact Ahd.irrefl _ q3
      · exact q3.asymm r
  · unfold lkF
    rw [List.pairwise_flatMap]
    constructor
    · intro t ht
      unfold pcs
      rw [List.pairwise_map]
      by_cases hin : ∃ e ∈ s, e.1 = t.1
      · obtain ⟨e, he, hk⟩ := hin
        rw [← hk, sgsOf_in hs.nd he]
        unfold sgE
        rw [List.pairwise_map]
        exact (hs.up e he).imp fun q => .inl ⟨rfl, rfl, q⟩
      · rw [sgsOf_out fun e he q => hin ⟨e, he, q⟩]
        exact List.Pairwise.nil
    · refine hc.ch.imp fun {t u} q y hy x hx => ?_
      unfold pcs at hy hx
      obtain ⟨g, _, rfl⟩ := List.mem_map.1 hy
      obtain ⟨g', _, rfl⟩ := List.mem_map.1 hx
      exact .inr q
end Go.Proofs.Ytgbmigfamefenaa
