/- Ranging over the map of sets: what comes, and what came already. No walk stands here. -/
import Derived.Test.YtgbmigfamefenaaSrt
namespace Go.Proofs.Ytgbmigfamefenaa
open Go.RowKit Go.Maps Go.Sort
set_option linter.unusedVariables false

theorem wf_inv {z : Int} (h : (Lit.int .i64 z).wf = true) : -9223372036854775808 ≤ z ∧ z ≤ 9223372036854775807 := by
  have e1 : IntKind.i64.min = -9223372036854775808 := by decide
  have e2 : IntKind.i64.max = 9223372036854775807 := by decide
  simp only [Lit.wf, e1, e2, Bool.and_eq_true, decide_eq_true_eq] at h
  exact h
set_option maxRecDepth 100000 in
theorem key_inv (key : Value) (l : Lit) (h : keyOf Try.prog 55 key = some l) : ∃ x : K3, key = .agg #[.int .i64 x.1, .int .i64 x.2.1, .int .i64 x.2.2] ∧ B3 x := by
  have hs : 2 ≤ Try.prog.types.size := of_decide_eq_true (by kernel_rfl)
  obtain ⟨d, hd⟩ := Nat.exists_eq_add_of_le hs
  have e : Try.prog.types.size + 1 = d + 3 := by omega
  unfold keyOf at h
  rw [Try.underlying55] at h
  simp only at h
  split at h
  · rename_i hc
    rw [Bool.and_eq_true] at hc
    have hf := hc.2
    obtain ⟨ls, hls, -⟩ := Option.map_eq_some_iff.1 h
    rw [e] at hls
    cases key with
    | agg cs =>
      simp only [Value.formed, Try.underlying55, cellsK, beq_iff_eq] at hf
      obtain ⟨a, b, c, hcs⟩ : ∃ a b c, cs = #[a, b, c] := by
        obtain ⟨l⟩ := cs
        simp only [List.size_toArray] at hf
        match l, hf with
        | [a, b, c], _ => exact ⟨a, b, c, rfl⟩
      subst hcs
      simp only [Value.cells] at hls
      rw [Program.keyLits.eq_def] at hls
      simp only [Try.underlying55] at hls
      simp [cellsK, cellsS, cellsI] at hls
      cases h1 : Try.prog.keyLits (d + 2) 24 [a, b] with
      | none => rw [h1] at hls; simp at hls
      | some s1 =>
        cases h2 : Try.prog.keyLits (d + 2) 3 [c] with
        | none => rw [h1, h2] at hls; simp at hls
        | some s2 =>
          rw [Program.keyLits.eq_def] at h1
          simp only [Try.underlying24] at h1
          simp [cellsS, cellsJ] at h1
          cases h3 : Try.prog.keyLits (d + 1) 2 [a] with
          | none => rw [h3] at h1; simp at h1
          | some s3 =>
            cases h4 : Try.prog.keyLits (d + 1) 2 [b] with
            | none => rw [h3, h4] at h1; simp at h1
            | some s4 =>
              have inv : ∀ {v : Value} {s : List Lit} {n : Nat}, Try.prog.keyLits (n + 1) 2 [v] = some s → ∃ z, v = .int .i64 z ∧ (Lit.int .i64 z).wf = true := fun {v s n} h => by
                cases v <;> simp [Program.keyLits, Try.underlying2] at h
                obtain ⟨⟨rfl, hw⟩, -⟩ := h
                exact ⟨_, rfl, hw⟩
              have inv2 : ∀ {v : Value} {s : List Lit} {n : Nat}, Try.prog.keyLits (n + 1) 3 [v] = some s → ∃ z, v = .int .i64 z ∧ (Lit.int .i64 z).wf = true := fun {v s n} h => by
                cases v <;> simp [Program.keyLits, Try.underlying3] at h
                obtain ⟨⟨rfl, hw⟩, -⟩ := h
                exact ⟨_, rfl, hw⟩
              obtain ⟨x, rfl, wx⟩ := inv h3
              obtain ⟨y, rfl, wy⟩ := inv h4
              obtain ⟨z, rfl, wz⟩ := inv2 h2
              exact ⟨(x, y, z), rfl, (wf_inv wx).1, (wf_inv wx).2, (wf_inv wy).1, (wf_inv wy).2, (wf_inv wz).1, (wf_inv wz).2⟩
    | _ => simp [Value.formed, Try.underlying55] at hf
  · cases h
theorem key_inv' (key : Value) (l : Lit) (h : keyOf Try.prog 55 key = some l) : ∃ x : K3, key = .agg #[.int .i64 x.1, .int .i64 x.2.1, .int .i64 x.2.2] := by
  obtain ⟨x, h1, _⟩ := key_inv key l h
  exact ⟨x, h1⟩
theorem key_b3 {x : K3} {l : Lit} (h : keyOf Try.prog 55 (.agg #[.int .i64 x.1, .int .i64 x.2.1, .int .i64 x.2.2]) = some l) : B3 x ∧ l = kl x := by
  obtain ⟨y, h1, h2⟩ := key_inv _ _ h
  have e : x = y := kv_inj h1
  subst e
  refine ⟨h2, ?_⟩
  have h3 := key_mk x h2
  unfold kv at h3
  rw [h] at h3
  exact Option.some.inj h3
def mkV (c : Int × Option Nat × Nat × Nat) : Value := match c with
  | (z, none, n, m) => .agg #[.int .i64 z, .slice none n m]
  | (z, some g, n, m) => .agg #[.int .i64 z, .slice (some ⟨g, 0, none⟩) n m]
theorem inv_sel (v : Value) (y : DataW Unit × List MemPlace) (h : sel v = some y) : ∃ c, v = mkV c := by
  unfold sel at h
  split at h
  · rename_i cs
    split at h
    · rename_i c' n m he
      have e1 : cs = #[.int .i64 c', .slice none n m] := by
        have : cs = cs.toList.toArray := by simp
        rw [this, he]
      exact ⟨(c', none, n, m), by rw [e1]; rfl⟩
    · rename_i c' g n m he
      have e1 : cs = #[.int .i64 c', .slice (some ⟨g, 0, none⟩) n m] := by
        have : cs = cs.toList.toArray := by simp
        rw [this, he]
      exact ⟨(c', some g, n, m), by rw [e1]; rfl⟩
    · cases h
  · cases h
theorem entry_of {D : DataW Unit} {Z : List En} {x : K3} {y : DataW Unit × List MemPlace} (hd : MD D Z) (hb : B3 x) (hat : ∀ z, D.atKey (kl x) z = y.1) : ∃ e ∈ Z, e.k = x := by
  have hh : Maps.has D (kl x) = true := Maps.has_true_of_atKey hat
  rw [hd.has x hb, List.any_eq_true] at hh
  obtain ⟨e, he, h1⟩ := hh
  exact ⟨e, he, by simpa using h1⟩
/-- Those that came already. -/
def donK (left : Lit → Bool) (p : K3 → Bool) (Z : List En) : List K3 := (Z.filter fun e => !(left (kl e.k)) && p e.k).map En.k
theorem donK_start {left : Lit → Bool} {p : K3 → Bool} {Z : List En} (h : ∀ e ∈ Z, left (kl e.k) = true) : donK left p Z = [] := by
  unfold donK
  rw [List.filter_eq_nil_iff.2 fun e he => by simp [h e he]]
  rfl
theorem donK_end {left : Lit → Bool} {p : K3 → Bool} {Z : List En} (h : ∀ k, left k = false) : donK left p Z = (Z.filter fun e => p e.k).map En.k := by
  unfold donK
  simp [h]
theorem donK_step {left : Lit → Bool} {p : K3 → Bool} {Z : List En} {e : En} (hZ : Z.Pairwise Apart) (hb : ∀ x ∈ Z, B3 x.k) (he : e ∈ Z) (hl : left (kl e.k) = true) :
    (donK (fun z => left z && !z.sameKey (kl e.k)) p Z).Perm (if p e.k then donK left p Z ++ [e.k] else donK left p Z) := by
  have hbe := hb e he
  have hs : Lit.sameKey (kl e.k) (kl e.k) = true := WideAt.sameKey_self (kl_key _ hbe)
  have key : ∀ Z : List En, (∀ x ∈ Z, B3 x.k) → (∀ x ∈ Z, x.k ≠ e.k) → donK (fun z => left z && !z.sameKey (kl e.k)) p Z = donK left p Z := fun Z hbZ hn => by
    unfold donK
    refine congrArg _ (List.filter_congr fun x hx => ?_)
    have h1 : Lit.sameKey (kl x.k) (kl e.k) = false := Maps.sameKey_ne fun h => hn x hx (kl_inj (hbZ x hx) hbe h)
    simp [h1]
  induction Z with
  | nil => cases he
  | cons z Z ih =>
    obtain ⟨p1, p2⟩ := List.pairwise_cons.1 hZ
    have hbZ : ∀ x ∈ Z, B3 x.k := fun x hx => hb x (List.mem_cons_of_mem _ hx)
    rcases List.mem_cons.1 he with q | he'
    · subst q
      have hk := key Z hbZ fun x hx => (p1 x hx).1.symm
      unfold donK at hk ⊢
      by_cases hp : p e.k = true
      · rw [if_pos hp, List.filter_cons_of_pos (by simp [hs, hp]), List.filter_cons_of_neg (by simp [hl]), List.map_cons, hk]
        exact (List.perm_append_singleton _ _).symm
      · rw [if_neg hp, List.filter_cons_of_neg (by simp [hp]), List.filter_cons_of_neg (by simp [hl]), hk]
    · have hne : z.k ≠ e.k := (p1 e he').1
      have h1 : Lit.sameKey (kl z.k) (kl e.k) = false := Maps.sameKey_ne fun h => hne (kl_inj (hb z (List.mem_cons_self ..)) hbe h)
      have ih := ih p2 hbZ he'
      unfold donK at ih ⊢
      by_cases hq : (!(left (kl z.k)) && p z.k) = true
      · rw [List.filter_cons_of_pos (by simpa [h1] using hq), List.filter_cons_of_pos (p := fun e : En => !(left (kl e.k)) && p e.k) (a := z) hq]
        by_cases hp : p e.k = true
        · rw [if_pos hp] at ih ⊢
          simp only [List.map_cons, List.cons_append]
          exact ih.cons _
        · rw [if_neg hp] at ih ⊢
          simp only [List.map_cons]
          exact ih.cons _
      · rw [List.filter_cons_of_neg (by simpa [h1] using hq), List.filter_cons_of_neg (p := fun e : En => !(left (kl e.k)) && p e.k) (a := z) hq]
        exact ih
theorem donK_len {left : Lit → Bool} {p : K3 → Bool} {Z : List En} : (donK left p Z).length ≤ Z.length := by
  unfold donK
  rw [List.length_map]
  exact List.length_filter_le _ _
/-- Keys in their order. -/
def srtK (l : List K3) : List K3 := l.mergeSort fun a b => !decide (Stn b a)
theorem Stn.total {a b : K3} (h : a ≠ b) : Stn a b ∨ Stn b a := by
  obtain ⟨x, y, z⟩ := a
  obtain ⟨x', y', z'⟩ := b
  unfold Stn
  simp only
  by_cases h1 : x = x'
  · by_cases h2 : y = y'
    · by_cases h3 : z = z'
      · exact absurd (by rw [h1, h2, h3]) h
      · omega
    · omega
  · omega
theorem srtK_perm (l : List K3) : (srtK l).Perm l := List.mergeSort_perm l _
theorem srtK_rise {l : List K3} (hn : l.Nodup) : (srtK l).Pairwise Stn := by
  have h1 : (srtK l).Pairwise fun a b => (!decide (Stn b a)) = true := List.pairwise_mergeSort (fun a b c q1 q2 => by
    simp only [Bool.not_eq_true', decide_eq_false_iff_not] at q1 q2 ⊢
    unfold Stn at *
    omega) (fun a b => by
    simp only [Bool.or_eq_true, Bool.not_eq_true', decide_eq_false_iff_not]
    unfold Stn
    omega) l
  have h2 : (srtK l).Nodup := (srtK_perm l).nodup_iff.2 hn
  refine List.Pairwise.imp (fun {a b} q => ?_) (h1.and h2)
  rcases Stn.total q.2 with r | r
  · exact r
  · have := q.1
    simp [r] at this
theorem srtK_eq {l m : List K3} (hn : l.Nodup) (p : m.Perm l) (h : m.Pairwise fun a b => ¬ Stn b a) : m = srtK l := by
  have hm : m.Nodup := p.nodup_iff.2 hn
  have h2 : m.Pairwise Stn := List.Pairwise.imp (fun {a b} q => (Stn.total q.2).resolve_right q.1) (h.and hm)
  refine List.Perm.eq_of_pairwise (le := Stn) ?_ h2 (srtK_rise hn) (p.trans (srtK_perm l).symm)
  intro a b _ _ q1 q2
  exfalso
  unfold Stn at *
  omega
/-- The keys of the sets that are wanted. -/
def keysF (p : K3 → Bool) (s : List Es) : List K3 := srtK ((s.filter fun e => p e.1).map Prod.fst)
theorem keys_nodup {w : World} {t : Nat} {F : Nat → Prop} {s : List Es} {mo : Option Nat} {Z : List En} (h : TlZ w t F s mo Z) : (Z.map En.k).Nodup := by
  unfold List.Nodup
  rw [List.pairwise_map]
  exact h.ap.imp fun q => q.1
theorem keysF_eq {w : World} {t : Nat} {F : Nat → Prop} {s : List Es} {mo : Option Nat} {Z : List En} (h : TlZ w t F s mo Z) (p : K3 → Bool) {m : List K3} (hp : m.Perm ((Z.filter fun e => p e.k).map En.k)) (hm : m.Pairwise fun a b => ¬ Stn b a) : m = keysF p s := by
  unfold keysF
  have e1 : (s.filter fun e => p e.1).map Prod.fst = (Z.filter fun e => p e.k).map En.k := by
    rw [← h.fs, List.filter_map, List.map_map]
    rfl
  rw [e1]
  refine srtK_eq ?_ hp hm
  have : ((Z.filter fun e => p e.k).map En.k).Sublist (Z.map En.k) := List.Sublist.map _ List.filter_sublist
  exact (keys_nodup h).sublist this
end Go.Proofs.Ytgbmigfamefenaa
