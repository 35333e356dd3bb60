/- Plain mathematics of the stable sort: ranges exchanged, a row turned round a place, two sorted rows put together. No walk stands here. -/
import Derived.Sort.LotA
namespace Go.Proofs.Ytgdeongeonhlpaa
open Go.Sort
variable {α : Type} [Inhabited α]

theorem ix (d : Array α) {p q : Nat} (h : p = q) : d[p]! = d[q]! := by rw [h]

/-- Of two ranges the first n places are exchanged. -/
structure SwR (lo hi a b n : Nat) (d d' : Array α) : Prop where
  perm : PermIn lo hi d d'
  get : ∀ y, d'[y]! = if a ≤ y ∧ y < a + n then d[y + (b - a)]! else if b ≤ y ∧ y < b + n then d[y - (b - a)]! else d[y]!
theorem SwR.refl (lo hi a b : Nat) (d : Array α) : SwR lo hi a b 0 d d :=
  ⟨permIn_refl d lo hi, fun y => by rw [if_neg (by omega), if_neg (by omega)]⟩
theorem SwR.step {lo hi a b n : Nat} {d d' : Array α} (h : SwR lo hi a b n d d') (h1 : lo ≤ a) (h2 : a + n < b) (h3 : b + n < hi) (h4 : hi ≤ d.size) :
    SwR lo hi a b (n + 1) d (swp d' (a + n) (b + n)) := by
  have hs : d'.size = d.size := h.perm.1
  refine ⟨permIn_trans _ _ _ _ _ h.perm (swp_permIn d' lo hi (a + n) (b + n) (by omega) (by omega) (by omega) (by omega) (by omega)), fun y => ?_⟩
  rw [swp_get d' (by omega) (by omega)]
  simp only [h.get]
  repeat' split
  all_goals first
    | (exfalso; omega)
    | exact ix d (by omega)

/-- The row turned: what lay from m to e comes ahead of what lay from s to m. -/
def rotAt (d : Array α) (s m e x : Nat) : α :=
  if s ≤ x ∧ x < s + (e - m) then d[x + (m - s)]! else if s + (e - m) ≤ x ∧ x < e then d[x - (e - m)]! else d[x]!
theorem rot_left {lo hi m i j : Nat} {d d' : Array α} (h : SwR lo hi (m - i) m j d d') (h1 : j < i) (h2 : i ≤ m) (x : Nat) :
    rotAt d' (m - (i - j)) m (m + j) x = rotAt d (m - i) m (m + j) x := by
  simp only [rotAt, h.get]
  repeat' split
  all_goals first
    | (exfalso; omega)
    | exact ix d (by omega)
theorem rot_right {lo hi m i j : Nat} {d d' : Array α} (h : SwR lo hi (m - i) (m + j - i) i d d') (h1 : i < j) (h2 : i ≤ m) (x : Nat) :
    rotAt d' (m - i) m (m + (j - i)) x = rotAt d (m - i) m (m + j) x := by
  simp only [rotAt, h.get]
  repeat' split
  all_goals first
    | (exfalso; omega)
    | exact ix d (by omega)
theorem rot_end {lo hi m i : Nat} {d d' : Array α} (h : SwR lo hi (m - i) m i d d') (h2 : i ≤ m) (x : Nat) :
    d'[x]! = rotAt d (m - i) m (m + i) x := by
  simp only [rotAt, h.get]
  repeat' split
  all_goals first
    | (exfalso; omega)
    | exact ix d (by omega)
theorem rot_none (d : Array α) (s m e x : Nat) (h : s = m ∨ m = e) (h1 : s ≤ m) (h2 : m ≤ e) : rotAt d s m e x = d[x]! := by
  unfold rotAt
  repeat' split
  all_goals first
    | (exfalso; omega)
    | exact ix d (by omega)

/-- A row turned, in memory. -/
structure Rot (lo hi s m e : Nat) (d d' : Array α) : Prop where
  perm : PermIn lo hi d d'
  get : ∀ x, d'[x]! = rotAt d s m e x
theorem Rot.none (lo hi s m e : Nat) (d : Array α) (h : s = m ∨ m = e) (h1 : s ≤ m) (h2 : m ≤ e) : Rot lo hi s m e d d := ⟨permIn_refl _ _ _, fun x => (rot_none d s m e x h h1 h2).symm⟩
/-- One element moves to the right, step by step. -/
theorem Rot.up {lo hi a k : Nat} {d d' : Array α} (h : Rot lo hi a (a + 1) (k + 1) d d') (h0 : lo ≤ a) (h1 : a ≤ k) (h2 : k + 1 < hi) (h3 : hi ≤ d.size) : Rot lo hi a (a + 1) (k + 1 + 1) d (swp d' k (k + 1)) := by
  have hs : d'.size = d.size := h.perm.1
  refine ⟨permIn_trans _ _ _ _ _ h.perm (swp_permIn d' lo hi k (k + 1) (by omega) (by omega) (by omega) (by omega) (by omega)), fun x => ?_⟩
  rw [swp_get d' (by omega) (by omega)]
  simp only [h.get, rotAt]
  repeat' split
  all_goals first
    | (exfalso; omega)
    | exact ix d (by omega)
/-- One element moves to the left, step by step. -/
theorem Rot.down {lo hi m k : Nat} {d d' : Array α} (h : Rot lo hi (k + 1) m (m + 1) d d') (h0 : lo ≤ k) (h1 : k + 1 ≤ m) (h2 : m < hi) (h3 : hi ≤ d.size) : Rot lo hi k m (m + 1) d (swp d' (k + 1) k) := by
  have hs : d'.size = d.size := h.perm.1
  refine ⟨permIn_trans _ _ _ _ _ h.perm (swp_permIn d' lo hi (k + 1) k (by omega) (by omega) (by omega) (by omega) (by omega)), fun x => ?_⟩
  rw [swp_get d' (by omega) (by omega)]
  simp only [h.get, rotAt]
  repeat' split
  all_goals first
    | (exfalso; omega)
    | exact ix d (by omega)

variable {lt : α → α → Bool}
theorem SortedIn.le (hS : SWO lt) {a b : Nat} {d : Array α} (h : SortedIn lt a b d) {i j : Nat} (h1 : a ≤ i) (h2 : i ≤ j) (h3 : j < b) : lt d[j]! d[i]! = false := by
  rcases Nat.lt_or_eq_of_le h2 with h4 | rfl
  · exact h i j h1 h4 h3
  · exact hS.irrefl _
theorem SortedIn.part {a b a' b' : Nat} {d : Array α} (h : SortedIn lt a b d) (h1 : a ≤ a') (h2 : b' ≤ b) : SortedIn lt a' b' d := fun i j hi hij hj => h i j (by omega) hij (by omega)
theorem SortedIn.one {a b : Nat} {d : Array α} (h : b ≤ a + 1) : SortedIn lt a b d := fun i j hi hij hj => by omega
/-- Sorted left, sorted right, and the left not above the right. -/
theorem SortedIn.glue {a t b : Nat} {d : Array α} (h1 : SortedIn lt a t d) (h2 : SortedIn lt t b d) (h3 : ∀ i j, a ≤ i → i < t → t ≤ j → j < b → lt d[j]! d[i]! = false) : SortedIn lt a b d := by
  intro i j hi hij hj
  by_cases c1 : j < t
  · exact h1 i j hi hij c1
  · by_cases c2 : i < t
    · exact h3 i j hi c2 (by omega) hj
    · exact h2 i j (by omega) hij hj
theorem SortedIn.kept {a b a' b' : Nat} {d d' : Array α} (h : SortedIn lt a b d) (hp : PermIn a' b' d d') (hd : b ≤ a' ∨ b' ≤ a) : SortedIn lt a b d' := by
  intro i j hi hij hj
  rw [hp.2.1 i (by omega), hp.2.1 j (by omega)]
  exact h i j hi hij hj

/-- Two sorted rows turned round m at places that fit: four sorted pieces, and the left two not above the right two. -/
theorem rot_split (hS : SWO lt) {a b s m e lo hi : Nat} {d d' : Array α} (h1 : SortedIn lt a m d) (h2 : SortedIn lt m b d) (hr : Rot lo hi s m e d d') (ha : a ≤ s) (hs : s ≤ m) (hm : m ≤ e) (he : e ≤ b)
    (hx : s = a ∨ e = b ∨ lt d[e]! d[s - 1]! = false) (hy : s = m ∨ e = m ∨ lt d[e - 1]! d[s]! = true) :
    SortedIn lt a s d' ∧ SortedIn lt s (s + (e - m)) d' ∧ SortedIn lt (s + (e - m)) e d' ∧ SortedIn lt e b d' ∧
    ∀ i j, a ≤ i → i < s + (e - m) → s + (e - m) ≤ j → j < b → lt d'[j]! d'[i]! = false := by
  have g1 : ∀ x, a ≤ x → x < s → d'[x]! = d[x]! := fun x k1 k2 => by rw [hr.get, rotAt, if_neg (by omega), if_neg (by omega)]
  have g2 : ∀ x, s ≤ x → x < s + (e - m) → d'[x]! = d[x + (m - s)]! := fun x k1 k2 => by rw [hr.get, rotAt, if_pos (by omega)]
  have g3 : ∀ x, s + (e - m) ≤ x → x < e → d'[x]! = d[x - (e - m)]! := fun x k1 k2 => by rw [hr.get, rotAt, if_neg (by omega), if_pos (by omega)]
  have g4 : ∀ x, e ≤ x → x < b → d'[x]! = d[x]! := fun x k1 k2 => by rw [hr.get, rotAt, if_neg (by omega), if_neg (by omega)]
  refine ⟨?_, ?_, ?_, ?_, ?_⟩
  · intro i j hi hij hj
    rw [g1 i hi (by omega), g1 j (by omega) hj]
    exact h1 i j hi hij (by omega)
  · intro i j hi hij hj
    rw [g2 i hi (by omega), g2 j (by omega) hj]
    exact h2 _ _ (by omega) (by omega) (by omega)
  · intro i j hi hij hj
    rw [g3 i hi (by omega), g3 j (by omega) hj]
    exact h1 _ _ (by omega) (by omega) (by omega)
  · intro i j hi hij hj
    rw [g4 i hi (by omega), g4 j (by omega) hj]
    exact h2 _ _ (by omega) (by omega) (by omega)
  · intro i j hi hit htj hj
    by_cases ci : i < s
    · rw [g1 i hi ci]
      by_cases cj : j < e
      · rw [g3 j htj cj]
        exact h1 i (j - (e - m)) hi (by omega) (by omega)
      · rw [g4 j (by omega) hj]
        rcases hx with hx | hx | hx
        · omega
        · omega
        · have k1 : lt d[j]! d[e]! = false := SortedIn.le hS h2 (by omega) (by omega) hj
          have k2 : lt d[s - 1]! d[i]! = false := SortedIn.le hS h1 hi (by omega) (by omega)
          exact hS.ntrans _ _ _ k1 (hS.ntrans _ _ _ hx k2)
    · rw [g2 i (by omega) hit]
      by_cases cj : j < e
      · rw [g3 j htj cj]
        rcases hy with hy | hy | hy
        · omega
        · omega
        · have k1 : lt d[e - 1]! d[i + (m - s)]! = false := SortedIn.le hS h2 (by omega) (by omega) (by omega)
          have k2 : lt d[j - (e - m)]! d[s]! = false := SortedIn.le hS h1 (by omega) (by omega) (by omega)
          have k3 : lt d[s]! d[e - 1]! = false := hS.asymmA hy
          exact hS.ntrans _ _ _ k2 (hS.ntrans _ _ _ k3 k1)
      · rw [g4 j (by omega) hj]
        exact h2 _ _ (by omega) (by omega) hj

/-- One element put into the sorted row behind it. -/
theorem one_up (hS : SWO lt) {a b i : Nat} {d d' : Array α} (h2 : SortedIn lt (a + 1) b d) (hr : Rot a b a (a + 1) i d d') (h1 : a + 1 ≤ i) (h3 : i ≤ b)
    (hx : i = a + 1 ∨ lt d[i - 1]! d[a]! = true) (hy : i = b ∨ lt d[i]! d[a]! = false) : SortedIn lt a b d' := by
  obtain ⟨k1, k2, k3, k4, k5⟩ := rot_split hS (a := a) (b := b) (SortedIn.one (by omega)) h2 hr (Nat.le_refl _) (by omega) h1 h3 (.inl rfl) (hx.elim (fun h => .inr (.inl h)) (fun h => .inr (.inr h)))
  refine SortedIn.glue k2 (SortedIn.glue k3 k4 fun p q p1 p2 q1 q2 => ?_) k5
  have e1 : p = i - 1 := by omega
  have g3 : d'[p]! = d[a]! := by rw [hr.get, rotAt, if_neg (by omega), if_pos (by omega)]; exact ix d (by omega)
  have g4 : d'[q]! = d[q]! := by rw [hr.get, rotAt, if_neg (by omega), if_neg (by omega)]
  rw [g3, g4]
  rcases hy with hy | hy
  · omega
  · exact hS.ntrans _ _ _ (SortedIn.le hS h2 (by omega) q1 q2) hy
/-- One element put into the sorted row ahead of it. -/
theorem one_down (hS : SWO lt) {a m i : Nat} {d d' : Array α} (h1 : SortedIn lt a m d) (hr : Rot a (m + 1) i m (m + 1) d d') (h2 : a ≤ i) (h3 : i ≤ m)
    (hx : i = a ∨ lt d[m]! d[i - 1]! = false) (hy : i = m ∨ lt d[m]! d[i]! = true) : SortedIn lt a (m + 1) d' := by
  have g1 : ∀ x, a ≤ x → x < i → d'[x]! = d[x]! := fun x k1 k2 => by rw [hr.get, rotAt, if_neg (by omega), if_neg (by omega)]
  have g2 : d'[i]! = d[m]! := by rw [hr.get, rotAt, if_pos (by omega)]; exact ix d (by omega)
  have g3 : ∀ x, i < x → x < m + 1 → d'[x]! = d[x - 1]! := fun x k1 k2 => by rw [hr.get, rotAt, if_neg (by omega), if_pos (by omega)]; exact ix d (by omega)
  intro p q hp hpq hq
  by_cases cp : p < i
  · rw [g1 p hp cp]
    rcases Nat.lt_trichotomy q i with cq | rfl | cq
    · rw [g1 q (by omega) cq]; exact h1 p q hp hpq (by omega)
    · rw [g2]
      rcases hx with hx | hx
      · omega
      · exact hS.ntrans _ _ _ hx (SortedIn.le hS h1 hp (by omega) (by omega))
    · rw [g3 q cq hq]; exact SortedIn.le hS h1 hp (by omega) (by omega)
  · by_cases ep : p = i
    · subst ep
      rw [g2, g3 q hpq hq]
      rcases hy with hy | hy
      · omega
      · have k1 : lt d[p]! d[m]! = false := hS.asymmA hy
        exact hS.ntrans _ _ _ (SortedIn.le hS h1 h2 (by omega) (by omega)) k1
    · rw [g3 p (by omega) (by omega), g3 q (by omega) hq]
      exact h1 _ _ (by omega) (by omega) (by omega)
/-- Both halves put in order, the left not above the right. -/
theorem halves {a t b : Nat} {d d1 d2 : Array α} (p1 : PermIn a t d d1) (s1 : SortedIn lt a t d1) (p2 : PermIn t b d1 d2) (s2 : SortedIn lt t b d2) (ht : a ≤ t) (hb : t ≤ b) (hsz : b ≤ d.size)
    (h : ∀ i j, a ≤ i → i < t → t ≤ j → j < b → lt d[j]! d[i]! = false) : SortedIn lt a b d2 ∧ PermIn a b d d2 := by
  have z1 : d1.size = d.size := p1.1
  have h1 : ∀ i j, a ≤ i → i < t → t ≤ j → j < b → lt d1[j]! d1[i]! = false := fun i j i1 i2 j1 j2 => by
    rw [p1.2.1 j (.inr j1)]
    exact permIn_all d d1 a t (fun x => lt d[j]! x = false) (by omega) p1 (fun i i1 i2 => h i j i1 i2 j1 j2) i i1 i2
  refine ⟨SortedIn.glue (SortedIn.kept s1 p2 (.inl (Nat.le_refl _))) s2 fun i j i1 i2 j1 j2 => ?_, permIn_trans _ _ _ _ _ (permIn_mono d d1 a t a b (Nat.le_refl _) hb hsz p1) (permIn_mono d1 d2 t b a b ht (Nat.le_refl _) (by omega) p2)⟩
  rw [p2.2.1 i (.inl i2)]
  exact permIn_all d1 d2 t b (fun x => lt x d1[i]! = false) (by omega) p2 (fun j j1 j2 => h1 i j i1 i2 j1 j2) j j1 j2

/-- Sorted block by block, from a on. -/
def BlkFrom (lt : α → α → Bool) (bs n a : Nat) (d : Array α) : Prop := ∀ q, a ≤ q * bs → SortedIn lt (q * bs) (min (q * bs + bs) n) d
def BlkTo (lt : α → α → Bool) (bs a : Nat) (d : Array α) : Prop := ∀ q, q * bs + bs ≤ a → SortedIn lt (q * bs) (q * bs + bs) d
theorem BlkTo.zero (bs : Nat) (hb : 0 < bs) (d : Array α) : BlkTo lt bs 0 d := fun q h => by omega
theorem BlkTo.next {bs q n : Nat} {d d' : Array α} (h : BlkTo lt bs (q * bs) d) (hb : 0 < bs) (hp : PermIn (q * bs) n d d') (hs : SortedIn lt (q * bs) (q * bs + bs) d') : BlkTo lt bs (q * bs + bs) d' := by
  intro p hp'
  by_cases e : p = q
  · subst e; exact hs
  · have hlt : p < q := by
      refine Nat.lt_of_le_of_ne (Nat.le_of_mul_le_mul_right (c := bs) (by omega) hb) e
    have : (p + 1) * bs ≤ q * bs := Nat.mul_le_mul_right _ hlt
    rw [Nat.add_mul, Nat.one_mul] at this
    exact SortedIn.kept (h p this) hp (.inl this)
theorem BlkFrom.next {bs n a b : Nat} {d d' : Array α} (h : BlkFrom lt bs n a d) (hp : PermIn a b d d') (hab : a ≤ b) : BlkFrom lt bs n b d' :=
  fun p hp' => SortedIn.kept (h p (by omega)) hp (.inr hp')
/-- All blocks sorted: those done, and the rest. -/
theorem blocks_all {bs n q : Nat} {d : Array α} (h : BlkTo lt bs (q * bs) d) (hb : 0 < bs) (hl : SortedIn lt (q * bs) n d) (hn : n ≤ q * bs + bs) : BlkFrom lt bs n 0 d := by
  intro p _
  rcases Nat.lt_trichotomy p q with c | rfl | c
  · have : (p + 1) * bs ≤ q * bs := Nat.mul_le_mul_right _ c
    rw [Nat.add_mul, Nat.one_mul] at this
    exact SortedIn.part (h p this) (Nat.le_refl _) (Nat.min_le_left _ _)
  · exact SortedIn.part hl (Nat.le_refl _) (Nat.min_le_right _ _)
  · have : (q + 1) * bs ≤ p * bs := Nat.mul_le_mul_right _ c
    rw [Nat.add_mul, Nat.one_mul] at this
    have : min (p * bs + bs) n ≤ p * bs := by omega
    exact SortedIn.one (by omega)
theorem BlkFrom.two {bs n q : Nat} {d : Array α} (h : BlkFrom lt bs n (q * (2 * bs)) d) : SortedIn lt (q * (2 * bs)) (min (q * (2 * bs) + bs) n) d ∧ SortedIn lt (q * (2 * bs) + bs) (min (q * (2 * bs) + 2 * bs) n) d := by
  have e1 : 2 * q * bs = q * (2 * bs) := by rw [Nat.mul_comm 2 q, Nat.mul_assoc]
  have e2 : (2 * q + 1) * bs = q * (2 * bs) + bs := by rw [Nat.add_mul, e1, Nat.one_mul]
  have h1 := h (2 * q) (by omega)
  have h2 := h (2 * q + 1) (by omega)
  rw [e1] at h1
  rw [e2] at h2
  exact ⟨h1, by have e3 : q * (2 * bs) + bs + bs = q * (2 * bs) + 2 * bs := by omega
                rwa [e3] at h2⟩
theorem sorted_all {bs n : Nat} {d : Array α} (h : BlkFrom lt bs n 0 d) (hn : n ≤ bs) : SortedIn lt 0 n d := by
  have := h 0 (Nat.zero_le _)
  rw [Nat.zero_mul, Nat.zero_add, Nat.min_eq_right hn] at this
  exact this
end Go.Proofs.Ytgdeongeonhlpaa
