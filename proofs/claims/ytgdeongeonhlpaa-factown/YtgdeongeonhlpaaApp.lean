/- Appending, and contracts of the library's Clone. -/
import Derived.Test.YtgdeongeonhlpaaCmp
import Derived.Laws.AppendOwnNone
import Derived.Deep.DeepAppendWide
import Derived.Lib.SliceRun
namespace Go.Proofs.Ytgdeongeonhlpaa
open Go.RowKit Go.Sort

/-- append(s, x...): s the call's own, x whatever reads as elements, nil too. -/
theorem wpList_appK {P : Program} {w : World} {ops : Array Oper} {rest : List Oper} {o : Oper} {a : Act} {Q : Exit → Act → World → Prop} (hgd : o.guard = none) (s x : Operand) (t : TypeId)
    (ho : o.op = .call { callee := .builtin .append, args := #[s, x], argTypes := #[t, t] })
    (base : Nat) (e : TypeId) (i : TypeInfo) (z : Value) (size bytes : Nat) (ht : P.underlying t = some (.slice e)) (hi : P.info? e = some i) (hz : i.zero = some z)
    (hsize : i.size = size) (hby : i.bytes = bytes) (hzs : z.cells.size = size) (hsz : 0 < size)
    (v : Value) (n : Nat) (xs : List Value) (hs : a.eval s = v) (hown : w.ownsRow base e size v n xs)
    (u : Value) (m : Nat) (news : List Value) (hx : a.eval x = u) (hr : RdsK size w u m news) (h1 : ∀ u ∈ news, u.oneCell' = true)
    (h63 : n + m ≤ maxLen) (hbytes : ((n + m) + (n + m) / 4 + 192) * bytes ≤ 281474976710656) (hbase : base ≤ w.heap.size)
    (h : ∀ v' w', w'.ownsRow base e size v' (n + m) (xs ++ news) → w.grownBy w' v.ownBlock → (v' = .slice none 0 0 → v = .slice none 0 0) → wpList P ops Q rest (a.put o.dst v') w') : wpList P ops Q (o :: rest) a w := by
  obtain ⟨ao, cap, rfl, h0, h2, h3, h4, h5⟩ := hr
  cases ao with
  | none =>
    obtain ⟨rfl, rfl⟩ := h4 rfl
    have hn : news = [] := List.eq_nil_of_length_eq_zero (by simpa using h0)
    subst hn
    refine wpList_append_own_none hgd s x t ho base e i size ht hi v n xs hs hown hx ?_
    exact h v w (by simpa using hown) ⟨rfl, rfl, rfl, Nat.le_refl _, fun _ _ _ => rfl⟩ id
  | some ad =>
    exact wpList_append_own_wide w hgd s x t ho base e i z size bytes ht hi hz hsize hby hzs hsz v n xs hs hown ad m cap news hx h0 (h5 ad rfl) h1 h63 hbytes hbase fun v' w' k1 k2 k3 => h v' w' k1 k2 fun e => (k3.1 e).1

theorem Try.info_many : (Try.prog.info? 46).map (fun i => (i.zero, i.size, i.bytes)) = some (some (.agg #[.int .i64 0, .slice none 0 0, .slice none 0 0, .int .u64 0]), 4, 64) := by kernel_rfl
theorem Try.info_i64 : (Try.prog.info? 2).map (fun i => (i.zero, i.size, i.bytes)) = some (some (.int .i64 0), 1, 8) := by kernel_rfl
theorem Rds.k {w : World} {v : Value} {xs : List Value} (h : Rds w v xs) : RdsK 1 w v xs.length xs := by
  obtain ⟨ao, cap, rfl, h1, h2, h3, h4⟩ := h
  exact ⟨ao, cap, rfl, by simp, h1, h2, h3, h4⟩
theorem own_made0 (w : World) (e k : Nat) : (w.alloc (.cells #[] e)).ownsRow w.heap.size e k (.slice (some ⟨w.heap.size, 0, none⟩) 0 0) 0 [] :=
  World.ownsRow_made w #[] 0 (Nat.le_refl _) (Nat.zero_le _) (by simp)

set_option maxHeartbeats 800000 in
theorem clone_many (w : World) (v : Value) (n : Nat) (xs : List Value) (h : RdsK 4 w v n xs) (h1 : ∀ u ∈ xs, u.oneCell' = true) (hbig : n * 64 ≤ 160842843834660) :
    Calls Try.prog 45 #[v] w fun e w' => ∃ v', e = .returned v' ∧ w'.ownsRow w.heap.size 46 4 v' n xs ∧ Below w.heap.size w w' := by
  obtain ⟨i0, hi, hz0, hz1, hz2⟩ := info_parts Try.info_many
  obtain ⟨ao, n', cap, rfl⟩ : ∃ ao n cap, v = .slice ao n cap := by obtain ⟨ao, cap, rfl, _⟩ := h; exact ⟨_, _, _, rfl⟩
  obtain ⟨rfl, k0, k1, k2, k3, k4⟩ := h.cells (by decide)
  clear k3
  have heq : ∀ (W : World) (a : Option Addr) (n c : Nat), (binOp .eql 36 (.slice a n c) (.slice none 0 0)).run Try.prog W = .ok (.bool a.isNone) W := fun W a n c => Lib.run_eql_slice_nil W 36 _ a n c 0 0 Try.underlying36
  cases ao with
  | none =>
    obtain ⟨rfl, rfl⟩ := k4 rfl
    have hn : xs = [] := List.eq_nil_of_length_eq_zero (by simpa using k0)
    subst hn
    go_enter Try.func45, Try.ntmps45
    go_wp2_with fail
    go_ret
    exact ⟨_, rfl, World.ownsRow_nil _ _ _ _, Below.refl _ _⟩
  | some ad =>
    have ha : Below w.heap.size w (w.alloc (.cells #[] 46)) := (Below.refl _ _).alloc (Nat.le_refl _) _
    have hr := h.below ha
    have HR : Hid (RdsK 4 (w.alloc (.cells #[] 46)) (.slice (some ad) n' cap) n' xs) := hr
    clear h hr k4 k0
    go_enter Try.func45, Try.ntmps45
    go_wp2_with (first
      | (at_builtin; refine wpList_appK rfl _ _ 36 rfl w.heap.size 46 i0 (.agg #[.int .i64 0, .slice none 0 0, .slice none 0 0, .int .u64 0]) 4 64 Try.underlying36 hi hz0 hz1 hz2 rfl (by decide) _ _ _ rfl (own_made0 w 46 4) _ _ _ rfl HR.out h1 (by unfold maxLen at *; omega) (by omega) (by simp) ?_; intro v1 w1 hown1 hgrow1 hnil))
    go_ret
    refine ⟨v1, rfl, ?_, ha.grown hgrow1 (by simp) (fun j hj => (World.ownsRow.lt (own_made0 w 46 4) j hj).1)⟩
    rw [Nat.zero_add, List.nil_append] at hown1
    exact hown1

set_option maxHeartbeats 800000 in
theorem clone_str (w : World) (v : Value) (n : Nat) (xs : List Value) (h : RdsK 1 w v n xs) (h1 : ∀ u ∈ xs, u.oneCell' = true) (hbig : n * 16 ≤ 160842843834660) :
    Calls Try.prog 54 #[v] w fun e w' => ∃ v', e = .returned v' ∧ w'.ownsRow w.heap.size 9 1 v' n xs ∧ Below w.heap.size w w' := by
  obtain ⟨i0, hi, hz0, hz1, hz2⟩ := info_parts Try.info_str
  obtain ⟨ao, n', cap, rfl⟩ : ∃ ao n cap, v = .slice ao n cap := by obtain ⟨ao, cap, rfl, _⟩ := h; exact ⟨_, _, _, rfl⟩
  obtain ⟨rfl, k0, k1, k2, k3, k4⟩ := h.cells (by decide)
  clear k3
  have heq : ∀ (W : World) (a : Option Addr) (n c : Nat), (binOp .eql 24 (.slice a n c) (.slice none 0 0)).run Try.prog W = .ok (.bool a.isNone) W := fun W a n c => Lib.run_eql_slice_nil W 24 _ a n c 0 0 Try.underlying24
  cases ao with
  | none =>
    obtain ⟨rfl, rfl⟩ := k4 rfl
    have hn : xs = [] := List.eq_nil_of_length_eq_zero (by simpa using k0)
    subst hn
    go_enter Try.func54, Try.ntmps54
    go_wp2_with fail
    go_ret
    exact ⟨_, rfl, World.ownsRow_nil _ _ _ _, Below.refl _ _⟩
  | some ad =>
    have ha : Below w.heap.size w (w.alloc (.cells #[] 9)) := (Below.refl _ _).alloc (Nat.le_refl _) _
    have hr := h.below ha
    have HR : Hid (RdsK 1 (w.alloc (.cells #[] 9)) (.slice (some ad) n' cap) n' xs) := hr
    clear h hr k4 k0
    go_enter Try.func54, Try.ntmps54
    go_wp2_with (first
      | (at_builtin; refine wpList_appK rfl _ _ 24 rfl w.heap.size 9 i0 (.string ⟨#[]⟩) 1 16 Try.underlying24 hi hz0 hz1 hz2 rfl (by decide) _ _ _ rfl (own_made0 w 9 1) _ _ _ rfl HR.out h1 (by unfold maxLen at *; omega) (by omega) (by simp) ?_; intro v1 w1 hown1 hgrow1 hnil))
    go_ret
    refine ⟨v1, rfl, ?_, ha.grown hgrow1 (by simp) (fun j hj => (World.ownsRow.lt (own_made0 w 9 1) j hj).1)⟩
    rw [Nat.zero_add, List.nil_append] at hown1
    exact hown1

set_option maxHeartbeats 800000 in
theorem clone_i64 (w : World) (v : Value) (n : Nat) (xs : List Value) (h : RdsK 1 w v n xs) (h1 : ∀ u ∈ xs, u.oneCell' = true) (hbig : n * 8 ≤ 160842843834660) :
    Calls Try.prog 55 #[v] w fun e w' => ∃ v', e = .returned v' ∧ w'.ownsRow w.heap.size 2 1 v' n xs ∧ Below w.heap.size w w' := by
  obtain ⟨i0, hi, hz0, hz1, hz2⟩ := info_parts Try.info_i64
  obtain ⟨ao, n', cap, rfl⟩ : ∃ ao n cap, v = .slice ao n cap := by obtain ⟨ao, cap, rfl, _⟩ := h; exact ⟨_, _, _, rfl⟩
  obtain ⟨rfl, k0, k1, k2, k3, k4⟩ := h.cells (by decide)
  clear k3
  have heq : ∀ (W : World) (a : Option Addr) (n c : Nat), (binOp .eql 25 (.slice a n c) (.slice none 0 0)).run Try.prog W = .ok (.bool a.isNone) W := fun W a n c => Lib.run_eql_slice_nil W 25 _ a n c 0 0 Try.underlying25
  cases ao with
  | none =>
    obtain ⟨rfl, rfl⟩ := k4 rfl
    have hn : xs = [] := List.eq_nil_of_length_eq_zero (by simpa using k0)
    subst hn
    go_enter Try.func55, Try.ntmps55
    go_wp2_with fail
    go_ret
    exact ⟨_, rfl, World.ownsRow_nil _ _ _ _, Below.refl _ _⟩
  | some ad =>
    have ha : Below w.heap.size w (w.alloc (.cells #[] 2)) := (Below.refl _ _).alloc (Nat.le_refl _) _
    have hr := h.below ha
    have HR : Hid (RdsK 1 (w.alloc (.cells #[] 2)) (.slice (some ad) n' cap) n' xs) := hr
    clear h hr k4 k0
    go_enter Try.func55, Try.ntmps55
    go_wp2_with (first
      | (at_builtin; refine wpList_appK rfl _ _ 25 rfl w.heap.size 2 i0 (.int .i64 0) 1 8 Try.underlying25 hi hz0 hz1 hz2 rfl (by decide) _ _ _ rfl (own_made0 w 2 1) _ _ _ rfl HR.out h1 (by unfold maxLen at *; omega) (by omega) (by simp) ?_; intro v1 w1 hown1 hgrow1 hnil))
    go_ret
    refine ⟨v1, rfl, ?_, ha.grown hgrow1 (by simp) (fun j hj => (World.ownsRow.lt (own_made0 w 2 1) j hj).1)⟩
    rw [Nat.zero_add, List.nil_append] at hown1
    exact hown1
end Go.Proofs.Ytgdeongeonhlpaa
