/- How many bits of a number are 1: the words and bytes of it, and what OnesCount64 reckons. -/
import Derived.Test.YtcldmjjbiifejaaDoorUnMath
namespace Go.Proofs.YtcldmjjbiifejaaDoor

/-- How many of the bits below n are 1. -/
def cnt (n X : Nat) : Nat := (List.range n).countP fun i => X.testBit i
theorem cnt_add (a b X : Nat) : cnt (a + b) X = cnt a X + cnt b (X / 2 ^ a) := by
  unfold cnt
  rw [List.range_add, List.countP_append, List.countP_map]
  congr 1
  apply List.countP_congr
  intro i _
  simp [Nat.testBit_div_two_pow, Nat.add_comm]
theorem cnt_mod (n X : Nat) : cnt n (X % 2 ^ n) = cnt n X := by
  unfold cnt
  apply List.countP_congr
  intro i hi
  simp [Nat.testBit_mod_two_pow, List.mem_range.1 hi]
theorem cnt_ge (n m X : Nat) (h : X < 2 ^ n) (hm : n ≤ m) : cnt m X = cnt n X := by
  obtain ⟨c, rfl⟩ : ∃ c, m = n + c := ⟨m - n, by omega⟩
  rw [cnt_add, Nat.div_eq_of_lt h]
  simp [cnt]
theorem cnt_le (n X : Nat) : cnt n X ≤ n := by
  unfold cnt
  have := List.countP_le_length (p := fun i => X.testBit i) (l := List.range n)
  simpa using this
theorem cnt_digits (k X : Nat) : ∀ m, ((dg k m X).map (cnt k)).sum = cnt (k * m) X
  | 0 => by simp [dg, cnt]
  | m + 1 => by
    rw [dg_succ, List.map_append, List.sum_append, cnt_digits k X m, Nat.mul_succ, cnt_add]
    simp [cnt_mod]

theorem and_cat (a y c z : Nat) (ha : a < 256) (hc : c < 256) : (a + 256 * y) &&& (c + 256 * z) = (a &&& c) + 256 * (y &&& z) := by
  have hac : a &&& c < 2 ^ 8 := Nat.and_lt_two_pow _ hc
  have ha' : a < 2 ^ 8 := ha
  have hc' : c < 2 ^ 8 := hc
  have e : (256 : Nat) = 2 ^ 8 := rfl
  rw [e, Nat.add_comm a, Nat.add_comm c, Nat.add_comm (a &&& c)]
  apply Nat.eq_of_testBit_eq
  intro j
  rw [Nat.testBit_and, Nat.testBit_two_pow_mul_add _ ha', Nat.testBit_two_pow_mul_add _ hc', Nat.testBit_two_pow_mul_add _ hac]
  by_cases h : j < 8 <;> simp [h, Nat.testBit_and]

def g1 (b : Nat) : Nat := (b / 2 &&& 85) + (b &&& 85)
def g2 (b : Nat) : Nat := (b / 4 &&& 51) + (b &&& 51)
def g3 (b : Nat) : Nat := (b / 16 + b) &&& 15
theorem m1 : ∀ b, b < 256 → ∀ t, t < 2 → (b / 2 + 128 * t) &&& 85 = b / 2 &&& 85 := by decide +kernel
theorem m2 : ∀ b, b < 256 → ∀ t, t < 4 → (b / 4 + 64 * t) &&& 51 = b / 4 &&& 51 := by decide +kernel
theorem g1_lt : ∀ b, b < 256 → g1 b < 171 := by decide +kernel
theorem g2_lt : ∀ b, b < 256 → g2 (g1 b) % 16 ≤ 4 ∧ g2 (g1 b) / 16 ≤ 4 := by decide +kernel
theorem g3_pop : ∀ b, b < 256 → g3 (g2 (g1 b)) = cnt 8 b := by decide +kernel
def mask (n c : Nat) : Nat := ofd 8 (List.replicate n c)
theorem mask_succ (n c : Nat) : mask (n + 1) c = c + 256 * mask n c := rfl
theorem step1 : ∀ bs : List Nat, (∀ x ∈ bs, x < 256) → (ofd 8 bs / 2 &&& mask bs.length 85) + (ofd 8 bs &&& mask bs.length 85) = ofd 8 (bs.map g1)
  | [], _ => rfl
  | b :: bs, h => by
    have ih := step1 bs (fun x hx => h x (List.mem_cons_of_mem _ hx))
    have hb := h b (List.mem_cons_self ..)
    rw [List.length_cons, mask_succ, List.map_cons, ofd, ofd, ← ih]
    generalize ofd 8 bs = Y
    have e : (b + 2 ^ 8 * Y) / 2 = (b / 2 + 128 * (Y % 2)) + 256 * (Y / 2) := by omega
    rw [e, and_cat _ _ _ _ (by omega) (by decide), and_cat _ _ _ _ hb (by decide), m1 b hb _ (Nat.mod_lt _ (by decide))]
    unfold g1; omega
theorem step2 : ∀ bs : List Nat, (∀ x ∈ bs, x < 256) → (ofd 8 bs / 4 &&& mask bs.length 51) + (ofd 8 bs &&& mask bs.length 51) = ofd 8 (bs.map g2)
  | [], _ => rfl
  | b :: bs, h => by
    have ih := step2 bs (fun x hx => h x (List.mem_cons_of_mem _ hx))
    have hb := h b (List.mem_cons_self ..)
    rw [List.length_cons, mask_succ, List.map_cons, ofd, ofd, ← ih]
    generalize ofd 8 bs = Y
    have e : (b + 2 ^ 8 * Y) / 4 = (b / 4 + 64 * (Y % 4)) + 256 * (Y / 4) := by omega
    rw [e, and_cat _ _ _ _ (by omega) (by decide), and_cat _ _ _ _ hb (by decide), m2 b hb _ (Nat.mod_lt _ (by decide))]
    unfold g2; omega
theorem and15 (x : Nat) : x &&& 15 = x % 16 := Nat.and_two_pow_sub_one_eq_mod x 4
theorem step3 : ∀ bs : List Nat, (∀ x ∈ bs, x % 16 ≤ 4 ∧ x / 16 ≤ 4) → (ofd 8 bs / 16 + ofd 8 bs) &&& mask bs.length 15 = ofd 8 (bs.map g3)
  | [], _ => rfl
  | b :: bs, h => by
    have ih := step3 bs (fun x hx => h x (List.mem_cons_of_mem _ hx))
    have hb := h b (List.mem_cons_self ..)
    have hY : ofd 8 bs % 16 ≤ 4 := by
      cases bs with
      | nil => simp [ofd]
      | cons c cs =>
        have := (h c (List.mem_cons_of_mem _ (List.mem_cons_self ..))).1
        simp only [ofd]; omega
    rw [List.length_cons, mask_succ, List.map_cons, ofd, ofd, ← ih]
    generalize ofd 8 bs = Y at *
    have e : (b + 2 ^ 8 * Y) / 16 + (b + 2 ^ 8 * Y) = (b / 16 + b + 16 * (Y % 16)) + 256 * (Y / 16 + Y) := by omega
    rw [e, and_cat _ _ _ _ (by omega) (by decide), and15]
    unfold g3; rw [and15]; omega
theorem mask8 : mask 8 85 = 6148914691236517205 ∧ mask 8 51 = 3689348814741910323 ∧ mask 8 15 = 1085102592571150095 := by decide +kernel
theorem dq {A Q m : Nat} (h : A < m) : (A + m * Q) / m = Q := by
  rw [Nat.add_mul_div_left _ _ (by omega), Nat.div_eq_of_lt h, Nat.zero_add]
theorem id2 (a b c d e f g i : Nat) : (a + 256 * (b + 256 * (c + 256 * (d + 256 * (e + 256 * (f + 256 * (g + 256 * i))))))) + (b + 256 * (c + 256 * (d + 256 * (e + 256 * (f + 256 * (g + 256 * i)))))) =
    ((a + b) + 256 * (b + c)) + 65536 * ((c + d) + 256 * (d + e) + 65536 * ((e + f) + 256 * (f + g) + 65536 * ((g + i) + 256 * i))) := by omega
theorem id4 (a b c d e f g i : Nat) : (((a + b) + 256 * (b + c)) + 65536 * ((c + d) + 256 * (d + e) + 65536 * ((e + f) + 256 * (f + g) + 65536 * ((g + i) + 256 * i)))) + ((c + d) + 256 * (d + e) + 65536 * ((e + f) + 256 * (f + g) + 65536 * ((g + i) + 256 * i))) =
    ((a + b + c + d) + 256 * (b + c + d + e) + 65536 * ((c + d + e + f) + 256 * (d + e + f + g))) + 4294967296 * ((e + f + g + i) + 256 * (f + g + i) + 65536 * ((g + i) + 256 * i)) := by omega
theorem id6 (a b c d e f g i : Nat) : (((a + b + c + d) + 256 * (b + c + d + e) + 65536 * ((c + d + e + f) + 256 * (d + e + f + g))) + 4294967296 * ((e + f + g + i) + 256 * (f + g + i) + 65536 * ((g + i) + 256 * i))) + ((e + f + g + i) + 256 * (f + g + i) + 65536 * ((g + i) + 256 * i)) =
    (a + (b + (c + (d + (e + (f + (g + (i + 0)))))))) + 128 * (2 * (b + c + d + e) + 512 * ((c + d + e + f) + 256 * (d + e + f + g)) + 33554432 * ((e + f + g + i) + 256 * (f + g + i) + 65536 * ((g + i) + 256 * i)) + 2 * (f + g + i) + 512 * ((g + i) + 256 * i)) := by omega
theorem lt2 (a b c : Nat) (ha : a ≤ 8) (hb : b ≤ 8) (hc : c ≤ 8) : (a + b) + 256 * (b + c) < 65536 := by omega
theorem lt4 (a b c d e f g : Nat) (ha : a ≤ 8) (hb : b ≤ 8) (hc : c ≤ 8) (hd : d ≤ 8) (he : e ≤ 8) (hf : f ≤ 8) (hg : g ≤ 8) : (a + b + c + d) + 256 * (b + c + d + e) + 65536 * ((c + d + e + f) + 256 * (d + e + f + g)) < 4294967296 := by omega
theorem ltC (a b c d e f g i : Nat) (ha : a ≤ 8) (hb : b ≤ 8) (hc : c ≤ 8) (hd : d ≤ 8) (he : e ≤ 8) (hf : f ≤ 8) (hg : g ≤ 8) (hi : i ≤ 8) : a + 256 * (b + 256 * (c + 256 * (d + 256 * (e + 256 * (f + 256 * (g + 256 * i)))))) < 650000000000000000 := by omega
theorem ltD (C : Nat) (h : C < 650000000000000000) : C + C / 256 < 1300000000000000000 := by omega
theorem ltE (C : Nat) (h : C < 1300000000000000000) : C + C / 65536 < 2600000000000000000 := by omega
theorem ltF (C : Nat) (h : C < 2600000000000000000) : C + C / 4294967296 < 5200000000000000000 := by omega
theorem sums8 (a b c d e f g i C : Nat) (ha : a ≤ 8) (hb : b ≤ 8) (hc : c ≤ 8) (hd : d ≤ 8) (he : e ≤ 8) (hf : f ≤ 8) (hg : g ≤ 8) (hi : i ≤ 8)
    (hC : C = a + 256 * (b + 256 * (c + 256 * (d + 256 * (e + 256 * (f + 256 * (g + 256 * i))))))) :
    C < 650000000000000000 ∧ C + C / 256 < 1300000000000000000 ∧ (C + C / 256) + (C + C / 256) / 65536 < 2600000000000000000 ∧ ((C + C / 256) + (C + C / 256) / 65536) + ((C + C / 256) + (C + C / 256) / 65536) / 4294967296 < 5200000000000000000 ∧
    (((C + C / 256) + (C + C / 256) / 65536) + ((C + C / 256) + (C + C / 256) / 65536) / 4294967296) % 128 = a + (b + (c + (d + (e + (f + (g + (i + 0))))))) := by
  have l1 := ltC a b c d e f g i ha hb hc hd he hf hg hi
  rw [← hC] at l1
  have l2 := ltD _ l1
  have l3 := ltE _ l2
  refine ⟨l1, l2, l3, ltF _ l3, ?_⟩
  clear l1 l2 l3
  have h1 : C / 256 = b + 256 * (c + 256 * (d + 256 * (e + 256 * (f + 256 * (g + 256 * i))))) := by rw [hC]; exact dq (Nat.lt_of_le_of_lt ha (by decide))
  rw [h1, hC, id2, dq (lt2 a b c ha hb hc), id4, dq (lt4 a b c d e f g ha hb hc hd he hf hg), id6, Nat.add_mul_mod_self_left, Nat.mod_eq_of_lt]
  omega
/-- The sums that OnesCount64 takes, in their order. -/
theorem ones (x : Nat) (h : x < 18446744073709551616) : ∃ a b c : Nat, (x / 2 &&& 6148914691236517205) + (x &&& 6148914691236517205) = a ∧ a < 18446744073709551616 ∧
    (a / 4 &&& 3689348814741910323) + (a &&& 3689348814741910323) = b ∧ b < 9223372036854775808 ∧ (b / 16 + b) &&& 1085102592571150095 = c ∧ c < 650000000000000000 ∧
    c + c / 256 < 1300000000000000000 ∧ (c + c / 256) + (c + c / 256) / 65536 < 2600000000000000000 ∧ ((c + c / 256) + (c + c / 256) / 65536) + ((c + c / 256) + (c + c / 256) / 65536) / 4294967296 < 5200000000000000000 ∧
    (((c + c / 256) + (c + c / 256) / 65536) + ((c + c / 256) + (c + c / 256) / 65536) / 4294967296) % 128 = cnt 64 x := by
  obtain ⟨e1, e2, e3⟩ := mask8
  have hx : ofd 8 (dg 8 8 x) = x := by rw [ofd_dg, Nat.mod_eq_of_lt h]
  have hb := dg_lt 8 8 x
  have hc := cnt_digits 8 x 8
  have s1 := step1 (dg 8 8 x) hb
  rw [dg_length, e1, hx] at s1
  have s2 := step2 ((dg 8 8 x).map g1) (by
    intro y hy; obtain ⟨z, hz, rfl⟩ := List.mem_map.1 hy
    have := g1_lt z (hb z hz); omega)
  rw [List.length_map, dg_length, e2] at s2
  have s3 := step3 (((dg 8 8 x).map g1).map g2) (by
    intro y hy; rw [List.map_map] at hy; obtain ⟨z, hz, rfl⟩ := List.mem_map.1 hy
    exact g2_lt z (hb z hz))
  rw [List.length_map, List.length_map, dg_length, e3] at s3
  have e4 : (((dg 8 8 x).map g1).map g2).map g3 = (dg 8 8 x).map (cnt 8) := by
    rw [List.map_map, List.map_map]
    apply List.map_congr_left
    intro z hz
    exact g3_pop z (hb z hz)
  rw [e4] at s3
  have l1 := ofd_lt 8 ((dg 8 8 x).map g1) (by
    intro y hy; obtain ⟨z, hz, rfl⟩ := List.mem_map.1 hy
    have := g1_lt z (hb z hz); omega)
  rw [List.length_map, dg_length] at l1
  have l2 : ofd 8 (((dg 8 8 x).map g1).map g2) < 9223372036854775808 := by
    have hl : ∀ y ∈ ((dg 8 8 x).map g1).map g2, y ≤ 68 := by
      intro y hy; rw [List.map_map] at hy; obtain ⟨z, hz, rfl⟩ := List.mem_map.1 hy
      have := g2_lt z (hb z hz); simp only [Function.comp]; omega
    have hlen : (((dg 8 8 x).map g1).map g2).length = 8 := by simp [dg_length]
    generalize ((dg 8 8 x).map g1).map g2 = L at *
    match L, hlen, hl with
    | [a, b, c, d, e, f, g, i], _, hl =>
      simp at hl
      simp only [ofd]; omega
  refine ⟨_, _, _, s1, l1, s2, l2, s3, ?_⟩
  have hl : ∀ y ∈ (dg 8 8 x).map (cnt 8), y ≤ 8 := by
    intro y hy; obtain ⟨z, hz, rfl⟩ := List.mem_map.1 hy; exact cnt_le 8 z
  have hlen : ((dg 8 8 x).map (cnt 8)).length = 8 := by simp [dg_length]
  rw [show 8 * 8 = 64 from rfl] at hc
  rw [← hc]
  generalize (dg 8 8 x).map (cnt 8) = L at *
  match L, hlen, hl with
  | [a, b, c, d, e, f, g, i], _, hl =>
    simp at hl
    obtain ⟨h1, h2, h3, h4, h5, h6, h7, h8⟩ := hl
    simp only [List.sum_cons, List.sum_nil]
    exact sums8 a b c d e f g i _ h1 h2 h3 h4 h5 h6 h7 h8 (by simp [ofd])
end Go.Proofs.YtcldmjjbiifejaaDoor
