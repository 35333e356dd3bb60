/- Numbers as digits of so many bits each: what Pack, Unpack, Bytes and Parse lay and read. Nothing of the program stands here. -/
namespace Go.Proofs.YtcldmjjbiifejaaDoor

/-- The m digits of k bits of N, lowest first. -/
def dg (k m N : Nat) : List Nat := (List.range m).map fun i => N / 2 ^ (k * i) % 2 ^ k
/-- The number whose digits of k bits these are, lowest first. -/
def ofd (k : Nat) : List Nat → Nat
  | [] => 0
  | x :: xs => x + 2 ^ k * ofd k xs

theorem dg_length (k m N : Nat) : (dg k m N).length = m := by simp [dg]
theorem dg_get? (k m N i : Nat) (h : i < m) : (dg k m N)[i]? = some (N / 2 ^ (k * i) % 2 ^ k) := by simp [dg, h]
theorem dg_getD (k m N i : Nat) (h : i < m) : (dg k m N).getD i 0 = N / 2 ^ (k * i) % 2 ^ k := by simp [dg, h]
theorem dg_succ (k m N : Nat) : dg k (m + 1) N = dg k m N ++ [N / 2 ^ (k * m) % 2 ^ k] := by simp [dg, List.range_succ]
theorem dg_zero (k N : Nat) : dg k 0 N = [] := rfl
theorem dg_cons (k m N : Nat) : dg k (m + 1) N = N % 2 ^ k :: dg k m (N / 2 ^ k) := by
  simp only [dg, List.range_succ_eq_map, List.map_cons, List.map_map, Nat.mul_zero, Nat.pow_zero, Nat.div_one, List.cons.injEq, true_and]
  apply List.map_congr_left
  intro i _
  simp only [Function.comp, Nat.div_div_eq_div_mul, ← Nat.pow_add]
  rw [show k * i.succ = k + k * i by rw [Nat.mul_succ]; omega]
theorem dg_lt (k m N : Nat) : ∀ x ∈ dg k m N, x < 2 ^ k := by
  intro x hx
  simp [dg] at hx
  obtain ⟨i, _, rfl⟩ := hx
  exact Nat.mod_lt _ (Nat.two_pow_pos _)
theorem dg_ext (k m N : Nat) (l : List Nat) (hl : l.length = m) (h : ∀ i, i < m → l.getD i 0 = N / 2 ^ (k * i) % 2 ^ k) : l = dg k m N := by
  apply List.ext_getElem
  · rw [hl, dg_length]
  · intro i h1 h2
    have := h i (by omega)
    rw [List.getD_eq_getElem?_getD, List.getElem?_eq_getElem h1] at this
    simp at this
    rw [this]; simp [dg]
theorem div_mod_congr {k m N N' i : Nat} (h : N % 2 ^ (k * m) = N' % 2 ^ (k * m)) (hi : i < m) : N / 2 ^ (k * i) % 2 ^ k = N' / 2 ^ (k * i) % 2 ^ k := by
  have key : ∀ M : Nat, M / 2 ^ (k * i) % 2 ^ k = (M % 2 ^ (k * m)) / 2 ^ (k * i) % 2 ^ k := by
    intro M
    apply Nat.eq_of_testBit_eq
    intro j
    have hmul : k * i + k ≤ k * m := by rw [← Nat.mul_succ]; exact Nat.mul_le_mul_left _ hi
    simp only [Nat.testBit_mod_two_pow, Nat.testBit_div_two_pow]
    by_cases hj : j < k
    · have : j + k * i < k * m := by omega
      simp [hj, this]
    · simp [hj]
  rw [key N, key N', h]
theorem dg_congr {k m N N' : Nat} (h : N % 2 ^ (k * m) = N' % 2 ^ (k * m)) : dg k m N = dg k m N' := by
  apply List.map_congr_left
  intro i hi
  exact div_mod_congr h (List.mem_range.mp hi)
theorem ofd_dg (k : Nat) : ∀ m N, ofd k (dg k m N) = N % 2 ^ (k * m)
  | 0, N => by simp [dg_zero, ofd, Nat.mod_one]
  | m + 1, N => by
    rw [dg_cons, ofd, ofd_dg k m, Nat.mul_succ, Nat.add_comm (k * m) k, Nat.pow_add, Nat.mod_mul]
theorem ofd_lt (k : Nat) : ∀ l : List Nat, (∀ x ∈ l, x < 2 ^ k) → ofd k l < 2 ^ (k * l.length)
  | [], _ => by simp [ofd]
  | x :: xs, h => by
    have h1 := ofd_lt k xs (fun y hy => h y (List.mem_cons_of_mem _ hy))
    have h2 := h x (List.mem_cons_self ..)
    rw [List.length_cons, Nat.mul_succ, Nat.add_comm (k * _) k, Nat.pow_add, ofd]
    have : 2 ^ k * (ofd k xs + 1) ≤ 2 ^ k * 2 ^ (k * xs.length) := Nat.mul_le_mul_left _ h1
    rw [Nat.mul_add] at this
    omega
theorem dg_ofd (k : Nat) : ∀ l : List Nat, (∀ x ∈ l, x < 2 ^ k) → dg k l.length (ofd k l) = l
  | [], _ => rfl
  | x :: xs, h => by
    have h2 := h x (List.mem_cons_self ..)
    rw [List.length_cons, dg_cons, ofd, Nat.add_mul_mod_self_left, Nat.mod_eq_of_lt h2, Nat.add_mul_div_left _ _ (Nat.two_pow_pos k), Nat.div_eq_of_lt h2, Nat.zero_add,
      dg_ofd k xs (fun y hy => h y (List.mem_cons_of_mem _ hy))]
theorem ofd_append (k : Nat) : ∀ l m : List Nat, ofd k (l ++ m) = ofd k l + 2 ^ (k * l.length) * ofd k m
  | [], m => by simp [ofd]
  | x :: xs, m => by
    rw [List.cons_append, ofd, ofd, ofd_append k xs m, List.length_cons, Nat.mul_succ, Nat.add_comm (k * _) k, Nat.pow_add, Nat.mul_add, Nat.mul_assoc, Nat.add_assoc]
/-- A row's digit is the number's. -/
theorem ofd_getD (k : Nat) (l : List Nat) (h : ∀ x ∈ l, x < 2 ^ k) (i : Nat) (hi : i < l.length) : ofd k l / 2 ^ (k * i) % 2 ^ k = l.getD i 0 := by
  have := dg_ofd k l h
  conv => rhs; rw [← this]
  rw [dg_getD _ _ _ _ hi]
/-- The first i numbers' number. -/
theorem ofd_take (k : Nat) (l : List Nat) (h : ∀ x ∈ l, x < 2 ^ k) (i : Nat) (hi : i ≤ l.length) : ofd k (l.take i) = ofd k l % 2 ^ (k * i) := by
  have e : ofd k l = ofd k (l.take i) + 2 ^ (k * i) * ofd k (l.drop i) := by
    conv => lhs; rw [← List.take_append_drop i l, ofd_append, List.length_take, Nat.min_eq_left hi]
  have hl := ofd_lt k (l.take i) (fun x hx => h x (List.mem_of_mem_take hx))
  rw [List.length_take, Nat.min_eq_left hi] at hl
  rw [e, Nat.add_mul_mod_self_left, Nat.mod_eq_of_lt hl]

/-- A bit laid into a byte that has none from there on. -/
theorem add_bit {a N : Nat} (hN : N < 2 ^ a) (i : Nat) :
    (N + 2 ^ a) / 2 ^ (8 * i) % 2 ^ 8 = if i = a / 8 then N / 2 ^ (8 * i) % 2 ^ 8 + 2 ^ (a % 8) else N / 2 ^ (8 * i) % 2 ^ 8 := by
  rcases Nat.lt_trichotomy i (a / 8) with h | h | h
  · rw [if_neg (by omega)]
    refine div_mod_congr (m := i + 1) ?_ (Nat.lt_succ_self i)
    obtain ⟨c, rfl⟩ : ∃ c, a = 8 * (i + 1) + c := ⟨a - 8 * (i + 1), by omega⟩
    rw [Nat.pow_add, Nat.add_mul_mod_self_left]
  · rw [if_pos h]
    have ha : a = 8 * i + a % 8 := by omega
    have hd : N / 2 ^ (8 * i) < 2 ^ (a % 8) := by
      rw [Nat.div_lt_iff_lt_mul (Nat.two_pow_pos _), ← Nat.pow_add]
      rw [show a % 8 + 8 * i = a by omega]; exact hN
    have h8 : 2 ^ (a % 8) ≤ 2 ^ 7 := Nat.pow_le_pow_right (by decide) (by omega)
    have e : (N + 2 ^ a) / 2 ^ (8 * i) = N / 2 ^ (8 * i) + 2 ^ (a % 8) := by
      conv => lhs; rw [ha, Nat.pow_add, Nat.add_mul_div_left _ _ (Nat.two_pow_pos _)]
    generalize N / 2 ^ (8 * i) = q at *
    generalize 2 ^ (a % 8) = p at *
    rw [e, Nat.mod_eq_of_lt (by omega), Nat.mod_eq_of_lt (by omega)]
  · rw [if_neg (by omega)]
    have h1 : 2 ^ (a + 1) ≤ 2 ^ (8 * i) := Nat.pow_le_pow_right (by decide) (by omega)
    rw [Nat.pow_succ] at h1
    rw [Nat.div_eq_of_lt (by omega), Nat.div_eq_of_lt (by omega)]
theorem dg_add_bit {a m N : Nat} (hN : N < 2 ^ a) : (dg 8 m N).set (a / 8) ((dg 8 m N).getD (a / 8) 0 + 2 ^ (a % 8)) = dg 8 m (N + 2 ^ a) := by
  apply dg_ext
  · simp [dg_length]
  · intro i hi
    rw [add_bit hN, List.getD_eq_getElem?_getD, List.getElem?_set, dg_length]
    by_cases h : i = a / 8
    · subst h; simp [hi, dg]
    · rw [if_neg (fun h' => h h'.symm), if_neg h, ← List.getD_eq_getElem?_getD, dg_getD _ _ _ _ hi]
theorem dg_bit_lt {a m N : Nat} (hN : N < 2 ^ a) (ha : a / 8 < m) : (dg 8 m N).getD (a / 8) 0 + 2 ^ (a % 8) < 256 := by
  have h := add_bit hN (a / 8)
  rw [if_pos rfl] at h
  rw [dg_getD _ _ _ _ ha, ← h]
  exact Nat.mod_lt _ (by decide)
/-- A bit of a number's digit. -/
theorem bit_digit (N w k j : Nat) (hj : j < w) : N / 2 ^ (w * k) % 2 ^ w / 2 ^ j % 2 = N / 2 ^ (w * k + j) % 2 := by
  have e : ∀ x : Nat, x % 2 = (x.testBit 0).toNat := fun x => by
    have := Nat.testBit_zero x
    rw [this]; rcases Nat.mod_two_eq_zero_or_one x with h | h <;> simp [h]
  rw [e, e, Nat.testBit_div_two_pow, Nat.testBit_mod_two_pow, Nat.testBit_div_two_pow, Nat.testBit_div_two_pow]
  simp [hj, Nat.add_comm]

/-- What Pack holds behind one more number. -/
theorem held_step {N T c wd : Nat} (hc : 8 * c ≤ T) :
    (N % 2 ^ T) / 2 ^ (8 * c) ||| (N / 2 ^ T % 2 ^ wd) * 2 ^ (T - 8 * c) = (N % 2 ^ (T + wd)) / 2 ^ (8 * c) := by
  obtain ⟨h, rfl⟩ : ∃ h, T = 8 * c + h := ⟨T - 8 * c, by omega⟩
  have hlt : (N % 2 ^ (8 * c + h)) / 2 ^ (8 * c) < 2 ^ h := by
    rw [Nat.div_lt_iff_lt_mul (Nat.two_pow_pos _), ← Nat.pow_add, Nat.add_comm h]
    exact Nat.mod_lt _ (Nat.two_pow_pos _)
  rw [show 8 * c + h - 8 * c = h by omega, Nat.or_comm, Nat.mul_comm _ (2 ^ h), ← Nat.two_pow_add_eq_or_of_lt hlt, Nat.pow_add _ (8 * c + h) wd, Nat.mod_mul, Nat.pow_add, Nat.mul_assoc, Nat.add_mul_div_left _ _ (Nat.two_pow_pos _), Nat.add_comm]
theorem held_lt {N T c m : Nat} (h : T ≤ 8 * c + m) : (N % 2 ^ T) / 2 ^ (8 * c) < 2 ^ m := by
  rw [Nat.div_lt_iff_lt_mul (Nat.two_pow_pos _), ← Nat.pow_add, Nat.add_comm m]
  exact Nat.lt_of_lt_of_le (Nat.mod_lt _ (Nat.two_pow_pos _)) (Nat.pow_le_pow_right (by decide) h)
theorem held_byte {N T c : Nat} (h : 8 * c + 8 ≤ T) : (N % 2 ^ T) / 2 ^ (8 * c) % 256 = N / 2 ^ (8 * c) % 2 ^ 8 := by
  have e : (256 : Nat) = 2 ^ 8 := rfl
  rw [e]
  apply Nat.eq_of_testBit_eq
  intro j
  simp only [Nat.testBit_mod_two_pow, Nat.testBit_div_two_pow]
  by_cases hj : j < 8
  · have : j + 8 * c < T := by omega
    simp [hj, this]
  · simp [hj]
theorem held_shift (N T c : Nat) : (N % 2 ^ T) / 2 ^ (8 * c) / 256 = (N % 2 ^ T) / 2 ^ (8 * (c + 1)) := by
  rw [Nat.div_div_eq_div_mul, show (256 : Nat) = 2 ^ 8 from rfl, ← Nat.pow_add]; rfl
end Go.Proofs.YtcldmjjbiifejaaDoor
