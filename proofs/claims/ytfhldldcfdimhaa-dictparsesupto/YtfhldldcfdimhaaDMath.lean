/- Rows of texts: their order, the unlike ones, places, beginnings, what two texts begin with. No walk stands here. -/
import Derived.WalkKit
import Derived.Lib.SlicesCompact
import Derived.Sort.EncStr
import Derived.Test.YtfhldldcfdimhaaRdMath
namespace Go.Proofs.Ytfhldldcfdimhaa

abbrev Str := List UInt8
/-- Texts that rise. -/
def Ris (l : List Str) : Prop := l.Pairwise (· < ·)
theorem lt_irr (a : Str) : ¬ a < a := List.lt_irrefl a
theorem lt_tr {a b c : Str} (h : a < b) (k : b < c) : a < c := List.lt_trans h k
theorem eq_of_not {a b : Str} (h : ¬ a < b) (k : ¬ b < a) : a = b := List.le_antisymm (List.not_lt.1 k) (List.not_lt.1 h)
theorem lt_of_le_ne {a b : Str} (h : ¬ b < a) (k : a ≠ b) : a < b := Classical.byContradiction fun x => k (eq_of_not x h)
theorem not_lt_tr {a b c : Str} (h : ¬ b < a) (k : ¬ c < b) : ¬ c < a := fun x => by
  by_cases e : b = c
  · subst e; exact h x
  · exact h (lt_tr (lt_of_le_ne k e) x)

theorem Ris.get {l : List Str} (h : Ris l) {i j : Nat} (hij : i < j) (hj : j < l.length) : l[i]'(by omega) < l[j] := List.pairwise_iff_getElem.1 h i j (by omega) hj hij
theorem Ris.ext {l m : List Str} (hl : Ris l) (hm : Ris m) (h : ∀ t, t ∈ l ↔ t ∈ m) : l = m := by
  have nd : ∀ {k : List Str}, Ris k → k.Nodup := fun {k} hk => hk.imp fun hab e => by subst e; exact lt_irr _ hab
  exact List.Perm.eq_of_pairwise (le := (· < ·)) (fun a b _ _ h1 h2 => absurd (lt_tr h1 h2) (lt_irr a)) hl hm ((List.perm_ext_iff_of_nodup (nd hl) (nd hm)).2 h)

/-- The unlike ones, rising. -/
def uniq (ts : List Str) : List Str := Lib.compact (ts.mergeSort fun x y => decide (x ≤ y))

theorem compact_ris (d : Array Str) (hs : ∀ i j, i ≤ j → j < d.size → ¬ d[j]! < d[i]!) : ∀ m, m ≤ d.size →
    Ris (Lib.compactUpTo d m) ∧ ∀ t, t ∈ Lib.compactUpTo d m ↔ ∃ j, j < m ∧ d[j]! = t
  | 0, _ => ⟨by simp [Lib.compactUpTo, Ris], by simp [Lib.compactUpTo]⟩
  | m + 1, hm => by
    obtain ⟨h1, h2⟩ := compact_ris d hs m (by omega)
    rw [Lib.compactUpTo_succ]
    by_cases hk : Lib.keeps d m = true
    · rw [if_pos hk]
      refine ⟨List.pairwise_append.2 ⟨h1, by simp, fun a ha b hb => ?_⟩, fun t => ?_⟩
      · obtain ⟨j, hj, rfl⟩ := (h2 a).1 ha
        simp at hb
        subst hb
        refine lt_of_le_ne (hs j m (by omega) (by omega)) fun e => ?_
        simp [Lib.keeps] at hk
        rcases hk with hk | hk
        · omega
        · refine hk ?_
          refine eq_of_not (hs (m - 1) m (by omega) (by omega) |> fun _ => fun x => ?_) (fun x => ?_)
          · exact hs (m - 1) m (by omega) (by omega) x
          · rw [← e] at x
            exact hs j (m - 1) (by omega) (by omega) x
      · rw [List.mem_append, h2]
        simp
        constructor
        · rintro (⟨j, hj, rfl⟩ | rfl)
          · exact ⟨j, by omega, rfl⟩
          · exact ⟨m, by omega, rfl⟩
        · rintro ⟨j, hj, rfl⟩
          rcases Nat.lt_or_eq_of_le (Nat.le_of_lt_succ hj) with h | rfl
          · exact .inl ⟨j, h, rfl⟩
          · exact .inr rfl
    · rw [if_neg hk, List.append_nil]
      refine ⟨h1, fun t => ?_⟩
      rw [h2]
      constructor
      · rintro ⟨j, hj, rfl⟩; exact ⟨j, by omega, rfl⟩
      · rintro ⟨j, hj, rfl⟩
        rcases Nat.lt_or_eq_of_le (Nat.le_of_lt_succ hj) with h | rfl
        · exact ⟨j, h, rfl⟩
        · simp [Lib.keeps] at hk
          exact ⟨j - 1, by omega, hk.2.symm⟩

theorem uniq_facts (ts : List Str) : Ris (uniq ts) ∧ ∀ t, t ∈ uniq ts ↔ t ∈ ts := by
  have hp : (ts.mergeSort fun x y => decide (x ≤ y)).Pairwise fun a b => decide (a ≤ b) = true := by
    refine List.pairwise_mergeSort ?_ ?_ _
    · intro a b c h1 h2
      simp only [decide_eq_true_eq] at h1 h2 ⊢
      exact List.le_trans h1 h2
    · intro a b
      have := List.le_total a b
      simpa using this
  have hq := List.pairwise_iff_getElem.1 hp
  obtain ⟨s, hs⟩ : ∃ s, s = ts.mergeSort fun x y => decide (x ≤ y) := ⟨_, rfl⟩
  rw [← hs] at hq
  have h := compact_ris s.toArray (fun i j hij hj => by
    simp at hj
    rw [getElem!_pos s.toArray i (by simp; omega), getElem!_pos s.toArray j (by simpa using hj)]
    simp only [List.getElem_toArray]
    rcases Nat.lt_or_eq_of_le hij with h | rfl
    · have := hq i j (by omega) hj h
      simp only [decide_eq_true_eq] at this
      exact List.not_lt.2 this
    · exact lt_irr _) s.length (by simp)
  unfold uniq Lib.compact
  rw [← hs]
  refine ⟨h.1, fun t => ?_⟩
  rw [h.2]
  have hm : t ∈ s ↔ t ∈ ts := by rw [hs]; exact List.mem_mergeSort
  rw [← hm]
  constructor
  · rintro ⟨j, hj, rfl⟩
    rw [getElem!_pos s.toArray j (by simpa using hj)]
    simp
  · intro ht
    obtain ⟨j, hj, rfl⟩ := List.getElem_of_mem ht
    exact ⟨j, hj, by rw [getElem!_pos s.toArray j (by simpa using hj)]; simp⟩
theorem uniq_length_le (ts : List Str) : (uniq ts).length ≤ ts.length := by
  unfold uniq Lib.compact Lib.compactUpTo
  have := List.length_filter_le (Lib.keeps (ts.mergeSort fun x y => decide (x ≤ y)).toArray) (List.range (ts.mergeSort fun x y => decide (x ≤ y)).length)
  simp at this ⊢
  exact this

/-- Of a list that first says yes and then no: where it turns. -/
theorem count_iff {α : Type} (p : α → Bool) : ∀ (l : List α), l.Pairwise (fun a b => p b = true → p a = true) → ∀ i (h : i < l.length), (p l[i] = true ↔ i < l.countP p)
  | [], _, i, h => by simp at h
  | a :: r, hp, i, h => by
    obtain ⟨h1, h2⟩ := List.pairwise_cons.1 hp
    by_cases ha : p a = true
    · rw [List.countP_cons_of_pos ha]
      cases i with
      | zero => simp [ha]
      | succ j =>
        have := count_iff p r h2 j (by simpa using h)
        simp only [List.getElem_cons_succ, this]
        omega
    · have hz : r.countP p = 0 := by
        rw [List.countP_eq_zero]
        intro b hb hpb
        exact ha (h1 b hb hpb)
      rw [List.countP_cons_of_neg (by simpa using ha), hz]
      refine ⟨fun hpi => ?_, fun hi => by omega⟩
      exfalso
      cases i with
      | zero => exact ha (by simpa using hpi)
      | succ j => exact ha (h1 _ (List.getElem_mem (by simpa using h)) (by simpa using hpi))

/-- How many are below one. -/
def frm (l : List Str) (s : Str) : Nat := l.countP fun t => decide (t < s)
theorem frm_le (l : List Str) (s : Str) : frm l s ≤ l.length := List.countP_le_length
theorem frm_iff {l : List Str} (h : Ris l) (s : Str) (i : Nat) (hi : i < l.length) : l[i] < s ↔ i < frm l s := by
  have := count_iff (fun t : Str => decide (t < s)) l (h.imp fun {a b} hab hb => by simp only [decide_eq_true_eq] at hb ⊢; exact lt_tr hab hb) i hi
  unfold frm
  simpa using this
theorem frm_eq {l : List Str} (h : Ris l) (s : Str) (n : Nat) (hn : n ≤ l.length) (h1 : ∀ i (hi : i < l.length), i < n → l[i] < s) (h2 : ∀ (hi : n < l.length), ¬ l[n] < s) : n = frm l s := by
  have hf := frm_le l s
  rcases Nat.lt_trichotomy n (frm l s) with hlt | he | hgt
  · exact absurd ((frm_iff h s n (by omega)).2 hlt) (h2 (by omega))
  · exact he
  · have := (frm_iff h s (frm l s) (by omega)).1 (h1 _ (by omega) hgt)
    omega
theorem getD_at {l : List Str} {i : Nat} (hi : i < l.length) : l.getD i [] = l[i] := by simp [hi]
theorem frm_at {l : List Str} (h : Ris l) (i : Nat) (hi : i < l.length) : frm l l[i] = i := by
  refine (frm_eq h l[i] i (by omega) (fun j hj hji => h.get hji hi) (fun _ => lt_irr _)).symm
theorem frm_there {l : List Str} (h : Ris l) (s : Str) : (frm l s < l.length ∧ l.getD (frm l s) [] = s) ↔ s ∈ l := by
  constructor
  · rintro ⟨h1, h2⟩
    rw [getD_at h1] at h2
    rw [← h2]; exact List.getElem_mem h1
  · intro hs
    obtain ⟨j, hj, rfl⟩ := List.getElem_of_mem hs
    rw [frm_at h j hj]
    exact ⟨hj, getD_at hj⟩

/-- One more text in its place. -/
def ins (l : List Str) (s : Str) : List Str := if frm l s < l.length ∧ l.getD (frm l s) [] = s then l else l.take (frm l s) ++ s :: l.drop (frm l s)
theorem ins_facts {l : List Str} (h : Ris l) (s : Str) : Ris (ins l s) ∧ ∀ t, t ∈ ins l s ↔ t ∈ l ∨ t = s := by
  unfold ins
  by_cases hc : frm l s < l.length ∧ l.getD (frm l s) [] = s
  · rw [if_pos hc]
    have hm := (frm_there h s).1 hc
    exact ⟨h, fun t => ⟨.inl, fun x => x.elim id fun e => by rw [e]; exact hm⟩⟩
  · rw [if_neg hc]
    have hd : ∀ t, t ∈ l ↔ t ∈ l.take (frm l s) ∨ t ∈ l.drop (frm l s) := fun t => by rw [← List.mem_append, List.take_append_drop]
    have ht : ∀ t ∈ l.take (frm l s), t < s := by
      intro t ht
      obtain ⟨j, hj, rfl⟩ := List.getElem_of_mem ht
      simp at hj
      rw [List.getElem_take]
      exact (frm_iff h s j (by omega)).2 (by omega)
    have hg : ∀ t ∈ l.drop (frm l s), s < t := by
      intro t ht
      have hm : t ∈ l := (hd t).2 (.inr ht)
      obtain ⟨j, hj, rfl⟩ := List.getElem_of_mem ht
      simp at hj
      rw [List.getElem_drop]
      refine lt_of_le_ne (fun x => ?_) fun e => hc ((frm_there h s).2 (by rw [e]; exact List.getElem_mem _))
      have := (frm_iff h s _ (by omega)).1 x
      omega
    refine ⟨List.pairwise_append.2 ⟨List.Pairwise.sublist (List.take_sublist _ _) h, List.pairwise_cons.2 ⟨hg, List.Pairwise.sublist (List.drop_sublist _ _) h⟩, fun a ha b hb => ?_⟩, fun t => ?_⟩
    · rcases List.mem_cons.1 hb with rfl | hb
      · exact ht a ha
      · exact lt_tr (ht a ha) (hg b hb)
    · rw [List.mem_append, List.mem_cons, hd]
      constructor
      · rintro (x | x | x)
        · exact .inl (.inl x)
        · exact .inr x
        · exact .inl (.inr x)
      · rintro ((x | x) | x)
        · exact .inl x
        · exact .inr (.inr x)
        · exact .inr (.inl x)
def inss (ts : List Str) : List Str := ts.foldl ins []
theorem inss_facts (ts : List Str) : Ris (inss ts) ∧ ∀ t, t ∈ inss ts ↔ t ∈ ts := by
  unfold inss
  suffices h : ∀ (ts l : List Str), Ris l → Ris (ts.foldl ins l) ∧ ∀ t, t ∈ ts.foldl ins l ↔ t ∈ l ∨ t ∈ ts by
    have := h ts [] List.Pairwise.nil
    exact ⟨this.1, fun t => by rw [this.2]; simp⟩
  intro ts
  induction ts with
  | nil => intro l hl; exact ⟨hl, by simp⟩
  | cons a r ih =>
    intro l hl
    have h1 := ins_facts hl a
    have h2 := ih (ins l a) h1.1
    refine ⟨h2.1, fun t => ?_⟩
    rw [List.foldl_cons, h2.2, h1.2, List.mem_cons, or_assoc]
theorem inss_uniq (ts : List Str) : inss ts = uniq ts := (inss_facts ts).1.ext (uniq_facts ts).1 fun t => ((inss_facts ts).2 t).trans ((uniq_facts ts).2 t).symm
theorem ins_length_le (l : List Str) (s : Str) : (ins l s).length ≤ l.length + 1 := by
  unfold ins
  split
  · omega
  · simp; omega

/-- Beginnings. -/
def pre (p t : Str) : Bool := p.isPrefixOf t
theorem pre_le : ∀ {p t : Str}, pre p t = true → ¬ t < p
  | [], t, _ => List.not_lt_nil t
  | a :: p, [], h => by simp [pre] at h
  | a :: p, b :: t, h => by
    simp [pre] at h
    obtain ⟨rfl, h⟩ := h
    intro x
    rw [List.cons_lt_cons_iff] at x
    rcases x with x | ⟨_, x⟩
    · exact absurd x (UInt8.lt_irrefl _)
    · exact pre_le (p := p) (t := t) (by simpa [pre] using h) x
theorem pre_mid : ∀ {p x y : Str}, ¬ x < p → ¬ y < x → pre p y = true → pre p x = true
  | [], x, y, _, _, _ => by simp [pre]
  | a :: p, [], y, h, _, _ => absurd (List.nil_lt_cons a p) h
  | a :: p, c :: x, [], _, _, h => by simp [pre] at h
  | a :: p, c :: x, b :: y, h1, h2, h3 => by
    simp [pre] at h3
    obtain ⟨rfl, h3⟩ := h3
    rw [List.cons_lt_cons_iff] at h1 h2
    have hca : ¬ c < a := fun z => h1 (.inl z)
    have hac : ¬ a < c := fun z => h2 (.inl z)
    have e : a = c := by
      have h3 := UInt8.not_lt.1 hca
      have h4 := UInt8.not_lt.1 hac
      exact UInt8.le_antisymm h3 h4
    subst e
    have := pre_mid (p := p) (x := x) (y := y) (fun z => h1 (.inr ⟨rfl, z⟩)) (fun z => h2 (.inr ⟨rfl, z⟩)) (by simpa [pre] using h3)
    simpa [pre] using this

/-- Where the texts end that begin so. -/
def bgn (l : List Str) (p : Str) : Nat := frm l p + (l.drop (frm l p)).countP (pre p)
theorem bgn_le (l : List Str) (p : Str) : bgn l p ≤ l.length := by
  have := List.countP_le_length (p := pre p) (l := l.drop (frm l p))
  have := frm_le l p
  simp [bgn] at *
  omega
theorem drop_mono {l : List Str} (h : Ris l) (p : Str) : (l.drop (frm l p)).Pairwise fun a b => pre p b = true → pre p a = true := by
  refine List.pairwise_iff_getElem.2 fun i j hi hj hij hb => ?_
  simp at hi hj
  rw [List.getElem_drop] at hb ⊢
  refine pre_mid (fun x => ?_) (fun x => ?_) hb
  · have := (frm_iff h p _ (by omega)).1 x; omega
  · exact lt_irr _ (lt_tr x (h.get (i := frm l p + i) (j := frm l p + j) (by omega) (by omega)))
theorem bgn_iff {l : List Str} (h : Ris l) (p : Str) (i : Nat) (hi : i < l.length) : pre p l[i] = true ↔ frm l p ≤ i ∧ i < bgn l p := by
  by_cases hlo : frm l p ≤ i
  · have := count_iff (pre p) _ (drop_mono h p) (i - frm l p) (by simp; omega)
    rw [List.getElem_drop] at this
    have e : frm l p + (i - frm l p) = i := by omega
    simp only [e] at this
    rw [this]
    unfold bgn
    omega
  · refine ⟨fun hp => absurd ((frm_iff h p i hi).2 (by omega)) (pre_le hp), fun hh => absurd hh.1 hlo⟩
theorem bgn_eq {l : List Str} (h : Ris l) (p : Str) (n : Nat) (hn : n ≤ l.length) (hlo : frm l p ≤ n) (h1 : ∀ i (hi : i < l.length), frm l p ≤ i → i < n → pre p l[i] = true) (h2 : ∀ (hi : n < l.length), ¬ pre p l[n] = true) : n = bgn l p := by
  have hb := bgn_le l p
  have hlb : frm l p ≤ bgn l p := by unfold bgn; omega
  rcases Nat.lt_trichotomy n (bgn l p) with hlt | he | hgt
  · exact absurd ((bgn_iff h p n (by omega)).2 ⟨hlo, hlt⟩) (h2 (by omega))
  · exact he
  · have := (bgn_iff h p (bgn l p) (by omega)).1 (h1 _ (by omega) hlb hgt)
    omega

/-- How many bytes both begin with. -/
def cpl : Str → Str → Nat
  | x :: a, y :: b => if x = y then cpl a b + 1 else 0
  | _, _ => 0
theorem cpl_nil (b : Str) : cpl [] b = 0 := by cases b <;> rfl
theorem cpl_le : ∀ a b : Str, cpl a b ≤ a.length ∧ cpl a b ≤ b.length
  | [], b => by rw [cpl_nil]; simp
  | x :: a, [] => by simp [cpl]
  | x :: a, y :: b => by
    have := cpl_le a b
    simp only [cpl]
    split <;> simp <;> omega
theorem cpl_eq : ∀ (a b : Str) (n : Nat), n ≤ a.length → n ≤ b.length → (∀ i, i < n → a.getD i 0 = b.getD i 0) → (n < a.length → n < b.length → a.getD n 0 ≠ b.getD n 0) → n = cpl a b
  | [], b, n, h1, _, _, _ => by rw [cpl_nil]; simpa using h1
  | x :: a, [], n, _, h2, _, _ => by simp at h2; simp [h2, cpl]
  | x :: a, y :: b, 0, _, _, _, h4 => by
    have := h4 (by simp) (by simp)
    simp at this
    simp [cpl, this]
  | x :: a, y :: b, n + 1, h1, h2, h3, h4 => by
    have e := h3 0 (by omega)
    simp at e
    subst e
    simp only [cpl, if_true]
    have := cpl_eq a b n (by simpa using h1) (by simpa using h2) (fun i hi => by simpa using h3 (i + 1) (by omega)) (fun k1 k2 => by simpa using h4 (by simpa using k1) (by simpa using k2))
    omega
theorem cpl_take : ∀ a b : Str, a.take (cpl a b) = b.take (cpl a b)
  | [], b => by rw [cpl_nil]; simp
  | x :: a, [] => by simp [cpl]
  | x :: a, y :: b => by
    simp only [cpl]
    split
    · rename_i h; subst h; simp [cpl_take a b]
    · simp
end Go.Proofs.Ytfhldldcfdimhaa
