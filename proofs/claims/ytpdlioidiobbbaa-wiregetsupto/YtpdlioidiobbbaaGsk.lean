/- Reading a message, as it moves through the bytes: where a reader is behind each part, and its first error; what was written is read to its end. No walk stands here. -/
import Derived.Test.YtpdlioidiobbbaaPMath
import Derived.Test.YtpdlioidiobbbaaRdText
import Derived.Test.YtpdlioidiobbbaaRfp
namespace Go.Proofs.Ytpdlioidiobbbaa

/-- Where a reader is, and its first error. -/
abbrev Sg2 := Nat × Nat
def skU (l : Bs) (s : Sg2) : Sg2 := (Rd.uS l s.1 s.2).2
def skT (l : Bs) (s : Sg2) : Sg2 := (tS l s.1 s.2).2
def skB (l : Bs) (s : Sg2) : Sg2 :=
  if s.2 ≠ 0 then s else match l.drop s.1 with
    | [] => (s.1, 10)
    | c :: _ => if 1 < c.toNat then (s.1, 12) else (s.1 + 1, 0)
/-- So many, one behind the other. -/
def skN (f : Sg2 → Sg2) : Nat → Sg2 → Sg2
  | 0, s => s
  | n + 1, s => skN f n (f s)
/-- A list: how many, and each. -/
def skL (l : Bs) (f : Sg2 → Sg2) (s : Sg2) : Sg2 := skN f (cS l s.1 s.2 1).1 (cS l s.1 s.2 1).2
/-- What reads b, wherever it lies. -/
def Back (l : Bs) (f : Sg2 → Sg2) (b : Bs) : Prop := ∀ p r, l.drop p = b ++ r → f (p, 0) = (p + b.length, 0)
theorem drop_more {l b r : Bs} {p : Nat} (h : l.drop p = b ++ r) : l.drop (p + b.length) = r := by
  rw [← List.drop_drop, h]; simp
theorem Back.comp {l : Bs} {f g : Sg2 → Sg2} {a b : Bs} (h : Back l f a) (k : Back l g b) : Back l (fun s => g (f s)) (a ++ b) := fun p r e => by
  rw [List.append_assoc] at e
  have h1 := h p (b ++ r) e
  have h2 := k (p + a.length) r (drop_more e)
  show g (f (p, 0)) = _
  rw [h1, h2, List.length_append, Nat.add_assoc]
theorem back_u (l : Bs) (n : Nat) (h : InU n) : Back l (skU l) (Num.uv n) := fun p r e => by
  unfold skU
  rw [Rd.uS_write l r p n e (by unfold InU at h; omega)]
theorem back_i (l : Bs) (k : Int) (h : In64 k) : Back l (skU l) (ei k) := back_u l _ (Lib.zigzag_lt h.1 h.2)
theorem cS_write (l r : Bs) (p n : Nat) (h : l.drop p = Num.uv n ++ r) (hn : InU n) (hr : n ≤ r.length) : cS l p 0 1 = (n, p + (Num.uv n).length, 0) := by
  have e := Rd.uS_write l r p n h (by unfold InU at hn; omega)
  unfold cS
  rw [e]
  have h2 := drop_more h
  have h3 : l.length - (p + (Num.uv n).length) = r.length := by rw [← h2]; simp
  have h4 : lim (lf l (p + (Num.uv n).length) 0) 1 = r.length := by unfold lim lf; simp; exact h3
  simp only [h4]
  rw [if_neg (by rintro ⟨_, h⟩; omega)]
theorem back_t (l : Bs) (t : Fi.Str) (h : t.length ≤ 140737488351232) : Back l (skT l) (et t) := fun p r e => by
  unfold et at e
  rw [List.append_assoc] at e
  have hc := cS_write l (t ++ r) p t.length e (by unfold InU; omega) (by simp)
  unfold skT tS
  rw [hc]
  simp only [ne_eq, not_true_eq_false, if_false, et, List.length_append, Nat.add_assoc]
theorem back_n {α : Type} (l : Bs) (f : Sg2 → Sg2) (g : α → Bs) : ∀ (xs : List α), (∀ x ∈ xs, Back l f (g x)) → Back l (skN f xs.length) (xs.flatMap g)
  | [], _ => fun p r e => by simp [skN]
  | x :: xs, h => fun p r e => by
    simp only [List.flatMap_cons] at e ⊢
    rw [List.append_assoc] at e
    have h1 := h x (by simp) p _ e
    have h2 := back_n l f g xs (fun y hy => h y (List.mem_cons_of_mem _ hy)) (p + (g x).length) r (drop_more e)
    show skN f xs.length (f (p, 0)) = _
    rw [h1, h2, List.length_append, Nat.add_assoc]
theorem flat_le {α : Type} (g : α → Bs) (xs : List α) (h : ∀ x ∈ xs, 0 < (g x).length) : xs.length ≤ (xs.flatMap g).length := by
  induction xs with
  | nil => simp
  | cons x xs ih =>
    simp only [List.flatMap_cons, List.length_append, List.length_cons]
    have h1 := h x (by simp)
    have h2 := ih fun y hy => h y (List.mem_cons_of_mem _ hy)
    exact Nat.le_trans (Nat.add_le_add h2 h1) (by rw [Nat.add_comm]; exact Nat.le_refl _)
theorem back_l {α : Type} (l : Bs) (f : Sg2 → Sg2) (g : α → Bs) (xs : List α) (hn : InU xs.length) (hp : ∀ x ∈ xs, 0 < (g x).length) (h : ∀ x ∈ xs, Back l f (g x)) : Back l (skL l f) (Num.uv xs.length ++ xs.flatMap g) := fun p r e => by
  rw [List.append_assoc] at e
  have hl := flat_le g xs hp
  have hc := cS_write l (xs.flatMap g ++ r) p xs.length e hn (by rw [List.length_append]; exact Nat.le_trans hl (Nat.le_add_right _ _))
  have h2 := back_n l f g xs h (p + (Num.uv xs.length).length) r (drop_more e)
  unfold skL
  simp only [hc]
  rw [h2, List.length_append, Nat.add_assoc]
theorem uv_pos (n : Nat) : 0 < (Num.uv n).length := Num.uvF_pos 9 n
theorem ei_pos (k : Int) : 0 < (ei k).length := uv_pos _
theorem pos_app {a b : Bs} (h : 0 < a.length) : 0 < (a ++ b).length := by rw [List.length_append]; exact Nat.lt_of_lt_of_le h (Nat.le_add_right _ _)
def skSpan (l : Bs) (s : Sg2) : Sg2 := skU l (skU l s)
def skSeg (l : Bs) (s : Sg2) : Sg2 := skU l (skU l (skU l (skSpan l s)))
def skAgg (l : Bs) (s : Sg2) : Sg2 := skU l (skU l s)
def skTxt (l : Bs) (s : Sg2) : Sg2 := skL l (skT l) s
def skPrt (l : Bs) (s : Sg2) : Sg2 := skTxt l (skU l (skU l s))
def skGrp (l : Bs) (s : Sg2) : Sg2 := skL l (skPrt l) (skTxt l (skU l (skU l s)))
/-- A filter, with so many depths left. -/
def skFil (l : Bs) : Nat → Sg2 → Sg2
  | 0, s => if s.2 ≠ 0 then s else (s.1, 12)
  | n + 1, s => skL l (skFil l n) (skU l (skU l (skTxt l (skU l (skU l s)))))
def skQuery (l : Bs) (s : Sg2) : Sg2 := skU l (skU l (skL l (skAgg l) (skL l (skL l (skU l)) (skU l (skFil l 20 (skSpan l s))))))
def skHead (l : Bs) (s : Sg2) : Sg2 := skU l (skU l (skU l (skU l (skU l (skU l (skU l (skU l (skU l s))))))))
def skFact (l : Bs) (s : Sg2) : Sg2 := skL l (skU l) (skTxt l (skU l s))
def skMsg (l : Bs) (s : Sg2) : Sg2 := skL l (skGrp l) (skL l (skSeg l) (skU l (skSeg l (skB l (skSpan l (skSeg l (skQuery l (skFact l (skHead l s)))))))))
theorem back_span (l : Bs) (F T : Int) (h1 : In64 F) (h2 : In64 T) : Back l (skSpan l) (r_span F T) := (back_i l F h1).comp (back_i l T h2)
theorem et_pos (t : Fi.Str) : 0 < (et t).length := pos_app (uv_pos _)
theorem back_txt (l : Bs) (ts : List Fi.Str) (hn : InU ts.length) (h : Txs ts) : Back l (skTxt l) (r_txt ts) := back_l l (skT l) et ts hn (fun t _ => et_pos t) fun t ht => back_t l t (h t ht)
theorem lst_inu {α : Type} {k : Nat} {f : α → List Value} {w : World} {v : Value} {xs : List α} (h : Lst k f w v xs) : InU xs.length := by
  obtain ⟨a, c, _, h1, h2⟩ := h.sl
  exact Nat.lt_of_le_of_lt (Nat.le_trans h1 h2) (by decide)
theorem fil_pos (t : Fi.Tr) : 0 < (r_fil t).length := by rw [r_fil_eq]; exact pos_app (a := ei t.k) (ei_pos t.k)
theorem back_fil (l : Bs) {w : World} : ∀ (k : Nat) (t : Fi.Tr), t.Ok w → TrIn t → e_fil k t ≠ none → Back l (skFil l k) (r_fil t)
  | 0, t, _, _, h => absurd rfl h
  | k + 1, t, ho, hi, h => by
    obtain ⟨i1, i2, i3, i4, i5, i6⟩ := hi.out
    have hk : ∀ c ∈ t.ks, e_fil k c ≠ none := fun c hc hn => h (by
      rw [e_fil_succ]
      simp only [cat_none, el]
      exact .inr (.inr (.inr (.inr (.inr (.inr ((encAll_none _ _).2 ⟨c, hc, hn⟩)))))))
    rw [r_fil_eq]
    show Back l (fun s => skL l (skFil l k) (skU l (skU l (skTxt l (skU l (skU l s)))))) _
    have c1 := back_l l (skFil l k) r_fil t.ks (lst_inu (tr_lst ho)) (fun c _ => fil_pos c) fun c hc => back_fil l k c (ho.kid c hc) (i6 c hc) (hk c hc)
    have c2 := (back_i l t.hi i4).comp c1
    have c3 := (back_i l t.lo i3).comp c2
    have c4 := (back_txt l t.ts (lst_inu (rds_lst ho.rt)) i5).comp c3
    have c5 := (back_i l t.d i2).comp c4
    have c6 := (back_i l t.k i1).comp c5
    exact c6
end Go.Proofs.Ytpdlioidiobbbaa
