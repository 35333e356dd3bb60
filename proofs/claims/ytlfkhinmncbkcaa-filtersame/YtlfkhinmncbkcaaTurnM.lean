/- What a filter turned says: its size, its depth, that it may be, where it holds. No walk stands here. -/
import Derived.Test.YtlfkhinmncbkcaaHld
namespace Go.Proofs.Ytlfkhinmncbkcaa
open Go.RowKit Go.Sort

theorem turn_ind {P : Tr → Prop} (hA : ∀ t : Tr, (t.k = 3 ∨ t.k = 4) → (∀ c ∈ t.ks, P c) → P t) (hN : ∀ (t c : Tr) (r : List Tr), t.k = 2 → t.ks = c :: r → P c → P t)
    (hL : ∀ t : Tr, t.k ≠ 3 → t.k ≠ 4 → t.kids = [] → P t) (t : Tr) : P t := by
  suffices k : ∀ N (t : Tr), SizeOf.sizeOf t < N → P t from k _ t (Nat.lt_succ_self _)
  intro N
  induction N with
  | zero => intro t h; omega
  | succ N ih =>
    intro t ht
    by_cases h34 : t.k = 3 ∨ t.k = 4
    · exact hA t h34 fun c hc => ih c (by have := ks_lt hc; omega)
    · have h3 : t.k ≠ 3 := fun h => h34 (.inl h)
      have h4 : t.k ≠ 4 := fun h => h34 (.inr h)
      by_cases h2 : t.k = 2
      · cases hks : t.ks with
        | nil => exact hL t h3 h4 (by unfold Tr.kids; rw [if_pos h2, hks]; rfl)
        | cons c r => exact hN t c r h2 hks (ih c (by have := ks_lt (t := t) (c := c) (by rw [hks]; exact List.mem_cons_self); omega))
      · exact hL t h3 h4 (kids_none h2 h3 h4)
theorem and_kids {t : Tr} (h : t.k = 3 ∨ t.k = 4) : t.kids = t.ks := by
  unfold Tr.kids; rw [if_neg (fun h2 => by rcases h with h | h <;> omega), if_pos h]
theorem not_kids {t c : Tr} {r : List Tr} (h : t.k = 2) (hks : t.ks = c :: r) : t.kids = [c] := by
  unfold Tr.kids; rw [if_pos h, hks]; rfl
theorem own_k (t : Tr) : t.own.k = t.k := by
  unfold Tr.own
  split
  · rfl
  · split <;> rfl
theorem own_kids (t : Tr) : t.own.er.kids = [] := by
  rw [er_kids]
  unfold Tr.kids
  rw [own_ks]
  split
  · rfl
  · split <;> rfl
abbrev notT (c : Tr) : Tr := .mk 2 0 sn [] 0 0 sn [c]
theorem notT_kids (c : Tr) : (notT c).kids = [c] := rfl
theorem andT_kids {k : Int} (h : k = 3 ∨ k = 4) (l : List Tr) : (Tr.mk k 0 sn [] 0 0 sn l).kids = l := and_kids (t := .mk k 0 sn [] 0 0 sn l) h
theorem kind_of {t : Tr} (h : t.k = 3 ∨ t.k = 4) (b : Bool) : (if b then 7 - t.k else t.k) = 3 ∨ (if b then 7 - t.k else t.k) = 4 := by
  cases b
  · exact h
  · simp only [if_true]; omega
theorem szL_map_le (b : Bool) : ∀ (l : List Tr), (∀ c ∈ l, (c.turn b).sz ≤ 2 * c.sz) → szL (l.map fun c => c.turn b) ≤ 2 * szL l
  | [], _ => by simp [szL]
  | a :: l, h => by
    have h1 := h a List.mem_cons_self
    have h2 := szL_map_le b l fun c hc => h c (List.mem_cons_of_mem _ hc)
    simp only [szL, List.map_cons, List.sum_cons] at *
    omega
theorem turn_sz (t : Tr) : ∀ b, (t.turn b).sz ≤ 2 * t.sz := by
  refine turn_ind (P := fun t => ∀ b, (t.turn b).sz ≤ 2 * t.sz) (fun t h ih b => ?_) (fun t c r h hks ih b => ?_) (fun t h3 h4 hk b => ?_) t
  · rw [turn_and h, Tr.sz_eq, t.sz_eq, andT_kids (kind_of h b), and_kids h]
    have := szL_map_le b t.ks fun c hc => ih c hc b
    omega
  · rw [turn_not h hks, t.sz_eq, not_kids h hks, szL_one]
    have := ih (!b)
    omega
  · rw [turn_leaf h3 h4 hk, t.sz_eq, hk]
    have h1 : t.own.er.sz = 1 := by rw [Tr.sz_eq, own_kids]; rfl
    cases b
    · simp only [Bool.false_eq_true, if_false, h1, szL, List.map_nil, List.sum_nil]; omega
    · simp only [if_true]
      rw [Tr.sz_eq, show (Tr.mk 2 0 sn [] 0 0 sn [t.own.er]).kids = [t.own.er] from rfl, szL_one, h1]
      simp [szL]
theorem dpL_map_le (b : Bool) : ∀ (l : List Tr), (∀ c ∈ l, (c.turn b).dp ≤ c.dp + 1) → dpL (l.map fun c => c.turn b) ≤ dpL l + 1
  | [], _ => by simp [dpL]
  | a :: l, h => by
    have h1 := h a List.mem_cons_self
    have h2 := dpL_map_le b l fun c hc => h c (List.mem_cons_of_mem _ hc)
    simp only [dpL, List.map_cons, List.foldr_cons] at *
    omega
theorem turn_dp (t : Tr) : ∀ b, (t.turn b).dp ≤ t.dp + 1 := by
  refine turn_ind (P := fun t => ∀ b, (t.turn b).dp ≤ t.dp + 1) (fun t h ih b => ?_) (fun t c r h hks ih b => ?_) (fun t h3 h4 hk b => ?_) t
  · rw [turn_and h, Tr.dp_eq, t.dp_eq, andT_kids (kind_of h b), and_kids h]
    have := dpL_map_le b t.ks fun c hc => ih c hc b
    omega
  · rw [turn_not h hks, t.dp_eq, not_kids h hks, dpL_one]
    have := ih (!b)
    omega
  · rw [turn_leaf h3 h4 hk, t.dp_eq, hk]
    have h1 : t.own.er.dp = 1 := by rw [Tr.dp_eq, own_kids]; rfl
    cases b
    · simp only [Bool.false_eq_true, if_false, h1]; omega
    · simp only [if_true]
      rw [Tr.dp_eq, show (Tr.mk 2 0 sn [] 0 0 sn [t.own.er]).kids = [t.own.er] from rfl, dpL_one, h1]
      simp [dpL]
theorem fitL_mem {D M : Int} {l : List Tr} : fitL D M l = true ↔ ∀ c ∈ l, c.fitA D M = true := by
  unfold fitL
  rw [List.all_eq_true]
  simp
theorem own_fit {D M : Int} {t : Tr} (h2 : t.k ≠ 2) : t.own.er.fit D M = t.fit D M := by
  rw [er_fit]
  unfold Tr.fit
  rw [own_k]
  have hd : (t.k = 5 ∨ t.k = 6 ∨ t.k = 7) → t.own.d = t.d ∧ t.own.ts = t.ts := fun h => by unfold Tr.own; rw [if_pos h]; exact ⟨rfl, rfl⟩
  have h8 : t.k = 8 → t.own.d = t.d := fun h => by unfold Tr.own; rw [if_neg (by omega), if_pos h]; rfl
  split
  · rfl
  · try simp only [if_neg h2]
    split
    · next h => rw [h8 h]
    · split
      · next h => rw [(hd (by omega)).1, (hd (by omega)).2]
      · split
        · next h => rw [(hd (by omega)).1, (hd (by omega)).2]
        · split
          · next h => rw [(hd (by omega)).1, (hd (by omega)).2]
          · rfl
theorem leaf_not2 {D M : Int} {t : Tr} (_ : t.k ≠ 3) (_ : t.k ≠ 4) (hk : t.kids = []) (hf : t.fitA D M = true) : t.k ≠ 2 ∧ t.fit D M = true := by
  rw [t.fitA_eq, Bool.and_eq_true] at hf
  refine ⟨fun h2 => ?_, hf.1⟩
  have h1 := hf.1
  unfold Tr.fit at h1
  rw [if_neg (by omega), if_pos h2] at h1
  unfold Tr.kids at hk
  rw [if_pos h2] at hk
  have hl : t.ks.length = 1 := by simpa using h1
  cases hks : t.ks with
  | nil => rw [hks] at hl; simp at hl
  | cons c r => rw [hks] at hk; simp at hk
theorem turn_fit (D M : Int) (t : Tr) : t.fitA D M = true → ∀ b, (t.turn b).fitA D M = true := by
  refine turn_ind (P := fun t => t.fitA D M = true → ∀ b, (t.turn b).fitA D M = true) (fun t h ih hf b => ?_) (fun t c r h hks ih hf b => ?_) (fun t h3 h4 hk hf b => ?_) t
  · rw [t.fitA_eq, and_kids h, Bool.and_eq_true, fitL_mem] at hf
    rw [turn_and h, Tr.fitA_eq, andT_kids (kind_of h b), Bool.and_eq_true, fitL_mem]
    refine ⟨?_, fun x hx => ?_⟩
    · unfold Tr.fit
      rw [if_pos (.inr (kind_of h b))]
    · obtain ⟨c, hc, rfl⟩ := List.mem_map.1 hx
      exact ih c hc (hf.2 c hc) b
  · rw [t.fitA_eq, not_kids h hks, Bool.and_eq_true, fitL_one] at hf
    rw [turn_not h hks]
    exact ih hf.2 (!b)
  · obtain ⟨h2, hfit⟩ := leaf_not2 h3 h4 hk hf
    have h1 : t.own.er.fitA D M = true := by rw [Tr.fitA_eq, own_kids, own_fit h2, hfit]; rfl
    rw [turn_leaf h3 h4 hk]
    cases b
    · exact h1
    · simp only [if_true]
      rw [Tr.fitA_eq, show (Tr.mk 2 0 sn [] 0 0 sn [t.own.er]).kids = [t.own.er] from rfl, fitL_one, h1]
      rfl
theorem own_hold {D M : Int} {X : Fc} {t : Tr} (h3 : t.k ≠ 3) (h4 : t.k ≠ 4) (h2 : t.k ≠ 2) (hk : t.kids = []) (hf : t.fit D M = true) : t.own.er.hold X = t.hold X := by
  rw [Tr.hold_eq, t.hold_eq, own_kids, hk]
  unfold holdE
  rw [er_k, own_k, er_d, er_lo, er_hi, er_txt]
  by_cases h1 : t.k = 1
  · rw [if_pos (.inl h1), if_pos (.inl h1)]
  · have h13 : ¬(t.k = 1 ∨ t.k = 3) := by omega
    simp only [if_neg h13, if_neg h2, if_neg h4]
    by_cases h8 : t.k = 8
    · simp only [if_pos h8]
      have e : t.own = .mk t.k t.d sn [] t.lo t.hi sn [] := by unfold Tr.own; rw [if_neg (by omega), if_pos h8]
      rw [e]; rfl
    · simp only [if_neg h8]
      have h567 : t.k = 5 ∨ t.k = 6 ∨ t.k = 7 := by
        unfold Tr.fit at hf
        rw [if_neg (by omega), if_neg h2, if_neg h8] at hf
        by_cases h6 : t.k = 6
        · omega
        · by_cases h7 : t.k = 7
          · omega
          · rw [if_neg h6, if_neg h7] at hf
            by_cases h5 : t.k = 5
            · omega
            · rw [if_neg h5] at hf; cases hf
      have e : t.own = .mk t.k t.d t.tv t.ts 0 0 sn [] := by unfold Tr.own; rw [if_pos h567]
      have e2 : ∀ s, t.own.txt s = t.txt s := fun s => by unfold Tr.txt; rw [e]; rfl
      rw [e2, e]; rfl
theorem anyB_not (b : Bool) : anyB false [b] = !b := by cases b <;> rfl
theorem anyB_turn (X : Fc) (b c : Bool) : ∀ (l : List Tr), (∀ x ∈ l, (x.turn b).hold X = (x.hold X != b)) → anyB c (holdL X (l.map fun x => x.turn b)) = anyB (c != b) (holdL X l)
  | [], _ => rfl
  | a :: l, h => by
    have h1 := h a List.mem_cons_self
    have h2 := anyB_turn X b c l fun x hx => h x (List.mem_cons_of_mem _ hx)
    simp only [anyB, holdL, List.map_cons, List.any_cons] at *
    rw [h1, h2]
    congr 1
    cases a.hold X <;> cases b <;> cases c <;> rfl
theorem hold3 (X : Fc) {t : Tr} (h : t.k = 3) : t.hold X = !anyB false (holdL X t.ks) := by
  rw [t.hold_eq, and_kids (.inl h)]
  unfold holdE
  rw [if_pos (.inr h)]
theorem hold4 (X : Fc) {t : Tr} (h : t.k = 4) : t.hold X = anyB true (holdL X t.ks) := by
  rw [t.hold_eq, and_kids (.inr h)]
  unfold holdE
  rw [if_neg (by omega), if_neg (by omega), if_pos h]
theorem hold2 (X : Fc) {t c : Tr} {r : List Tr} (h : t.k = 2) (hks : t.ks = c :: r) : t.hold X = !c.hold X := by
  rw [t.hold_eq, not_kids h hks]
  unfold holdE
  rw [if_neg (by omega), if_pos h]
  simp only [holdL, List.map_cons, List.map_nil, anyB_not]
theorem turn_hold (D M : Int) (X : Fc) (t : Tr) : t.fitA D M = true → ∀ b, (t.turn b).hold X = (t.hold X != b) := by
  refine turn_ind (P := fun t => t.fitA D M = true → ∀ b, (t.turn b).hold X = (t.hold X != b)) (fun t h ih hf b => ?_) (fun t c r h hks ih hf b => ?_) (fun t h3 h4 hk hf b => ?_) t
  · rw [t.fitA_eq, and_kids h, Bool.and_eq_true, fitL_mem] at hf
    have hh := fun c' => anyB_turn X b c' t.ks fun x hx => ih x hx (hf.2 x hx) b
    rw [turn_and h]
    rcases h with h | h
    · rw [hold3 X h, h]
      cases b
      · rw [hold3 X (show (Tr.mk (if false = true then 7 - 3 else 3) 0 sn [] 0 0 sn (t.ks.map fun c => c.turn false)).k = 3 from rfl)]
        show (!anyB false (holdL X (t.ks.map fun c => c.turn false))) = _
        rw [hh false]; simp
      · rw [hold4 X (show (Tr.mk (if true = true then 7 - 3 else 3) 0 sn [] 0 0 sn (t.ks.map fun c => c.turn true)).k = 4 from rfl)]
        show anyB true (holdL X (t.ks.map fun c => c.turn true)) = _
        rw [hh true]; simp
    · rw [hold4 X h, h]
      cases b
      · rw [hold4 X (show (Tr.mk (if false = true then 7 - 4 else 4) 0 sn [] 0 0 sn (t.ks.map fun c => c.turn false)).k = 4 from rfl)]
        show anyB true (holdL X (t.ks.map fun c => c.turn false)) = _
        rw [hh true]; simp
      · rw [hold3 X (show (Tr.mk (if true = true then 7 - 4 else 4) 0 sn [] 0 0 sn (t.ks.map fun c => c.turn true)).k = 3 from rfl)]
        show (!anyB false (holdL X (t.ks.map fun c => c.turn true))) = _
        rw [hh false]; simp
  · rw [t.fitA_eq, not_kids h hks, Bool.and_eq_true, fitL_one] at hf
    rw [turn_not h hks, ih hf.2 (!b), hold2 X h hks]
    cases c.hold X <;> cases b <;> rfl
  · obtain ⟨h2, hfit⟩ := leaf_not2 h3 h4 hk hf
    have h1 := own_hold (X := X) h3 h4 h2 hk hfit
    rw [turn_leaf h3 h4 hk]
    cases b
    · simp only [Bool.false_eq_true, if_false]; rw [h1]; simp
    · simp only [if_true]
      rw [hold2 X (t := .mk 2 0 sn [] 0 0 sn [t.own.er]) rfl rfl, h1]
      simp
theorem lim_er {t : Tr} (h : t.Lim) : t.er.Lim := by
  induction h with
  | mk hl _ ih =>
    refine .mk (by rw [er_ts]; exact hl) fun c hc => ?_
    rw [er_ks] at hc
    obtain ⟨d, hd, rfl⟩ := List.mem_map.1 hc
    exact ih d hd
theorem er_lim (t : Tr) : t.er.Lim → t.Lim := by
  suffices k : ∀ N (t : Tr), SizeOf.sizeOf t < N → t.er.Lim → t.Lim from k _ t (Nat.lt_succ_self _)
  intro N
  induction N with
  | zero => intro t h; omega
  | succ N ih =>
    intro t ht h
    refine .mk (by have := h.len; rwa [er_ts] at this) fun c hc => ih c (by have := ks_lt hc; omega) (h.kid c.er (by rw [er_ks]; exact List.mem_map_of_mem hc))
theorem own_lim {t : Tr} (h : t.Lim) : t.own.er.Lim := by
  refine .mk (by rw [er_ts]; exact own_len h) fun c hc => ?_
  rw [er_ks, own_ks] at hc
  cases hc
theorem turn_lim (t : Tr) : t.Lim → ∀ b, (t.turn b).Lim := by
  refine turn_ind (P := fun t => t.Lim → ∀ b, (t.turn b).Lim) (fun t h ih hl b => ?_) (fun t c r h hks ih hl b => ?_) (fun t h3 h4 hk hl b => ?_) t
  · rw [turn_and h]
    refine .mk (by show 0 * 16 ≤ _; omega) fun x hx => ?_
    obtain ⟨c, hc, rfl⟩ := List.mem_map.1 hx
    exact ih c hc (hl.kid c hc) b
  · rw [turn_not h hks]
    exact ih (hl.kid c (by rw [hks]; exact List.mem_cons_self)) _
  · rw [turn_leaf h3 h4 hk]
    cases b
    · exact own_lim hl
    · refine .mk (by show 0 * 16 ≤ _; omega) fun x hx => ?_
      have : x = t.own.er := by simpa [Tr.ks] using hx
      rw [this]; exact own_lim hl
/-- What is to be known of a filter that was turned, by the filter. -/
theorem turned {D M : Int} {X : Fc} {t n : Tr} (hm : t.may D M = true) (he : n.er = t.turn true) (hl : t.Lim) :
    n.sz ≤ 400 ∧ n.dp ≤ t.dp + 1 ∧ n.fitA D M = true ∧ n.hold X = !t.hold X ∧ n.Lim := by
  unfold Tr.may at hm
  simp only [Bool.and_eq_true, decide_eq_true_eq] at hm
  have h1 := turn_sz t true
  have h2 := turn_dp t true
  have h3 := turn_fit D M t hm.2.2 true
  have h4 := turn_hold D M X t hm.2.2 true
  have h5 := turn_lim t hl true
  rw [← he] at h1 h2 h3 h4 h5
  rw [er_sz] at h1
  rw [er_dp] at h2
  rw [er_fitA] at h3
  rw [er_hold] at h4
  refine ⟨by omega, h2, h3, by rw [h4]; cases t.hold X <;> rfl, er_lim n h5⟩
end Go.Proofs.Ytlfkhinmncbkcaa
