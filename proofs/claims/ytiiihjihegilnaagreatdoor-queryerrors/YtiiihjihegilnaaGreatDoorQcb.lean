/- Choices of dimensions; contracts of chosen, Cube, Rollup and the reference's. -/
import Derived.Test.YtiiihjihegilnaaGreatDoorQst
namespace Go.Proofs.YtiiihjihegilnaaGreatDoor
open Go.RowKit Go.Sort

/-- The dimensions whose bits are in a choice; the first one's is the highest. -/
def chs : List Int → Nat → List Int
  | [], _ => []
  | d :: r, c => if c / 2 ^ r.length % 2 = 1 then d :: chs r c else chs r c
theorem chs_add (m k : Nat) : ∀ (r : List Int) (c : Nat), r.length ≤ m → chs r (c + 2 ^ m * k) = chs r c
  | [], _, _ => rfl
  | d :: r, c, h => by
    have h1 : r.length + 1 ≤ m := by simpa using h
    have e : (c + 2 ^ m * k) / 2 ^ r.length % 2 = c / 2 ^ r.length % 2 := by
      obtain ⟨q, rfl⟩ : ∃ q, m = r.length + (q + 1) := ⟨m - r.length - 1, by omega⟩
      rw [Nat.pow_add, Nat.mul_assoc, Nat.add_mul_div_left _ _ (Nat.two_pow_pos _), Nat.pow_succ, Nat.mul_comm (2 ^ q) 2, Nat.mul_assoc]
      omega
    rw [chs, chs, e, chs_add m k r c (by omega)]
theorem chs_len (r : List Int) (c : Nat) : (chs r c).length ≤ r.length := by
  induction r with
  | nil => simp [chs]
  | cons d r ih => rw [chs]; split <;> simp <;> omega
def cub (d : List Int) : List (List Int) := ((List.range (2 ^ d.length)).map (chs d)).reverse
def rcub : List Int → List (List Int)
  | [] => [[]]
  | d :: r => (rcub r).map (d :: ·) ++ rcub r
theorem cub_eq : ∀ d, cub d = rcub d
  | [] => by simp [cub, rcub, chs]
  | d :: r => by
    have ih := cub_eq r
    have e1 : (d :: r).length = r.length + 1 := rfl
    unfold cub at *
    rw [e1, Nat.pow_succ, Nat.mul_two, List.range_add, List.map_append, List.reverse_append, rcub, ← ih]
    congr 1
    · rw [List.map_reverse, List.map_map, List.map_map]
      congr 1
      apply List.map_congr_left
      intro c hc
      have hlt : c < 2 ^ r.length := List.mem_range.1 hc
      have h2 : (2 ^ r.length + c) / 2 ^ r.length % 2 = 1 := by
        rw [Nat.add_div_left _ (Nat.two_pow_pos _), Nat.div_eq_of_lt hlt]
      simp only [Function.comp]
      rw [chs, if_pos h2]
      have := chs_add r.length 1 r c (Nat.le_refl _)
      rw [Nat.mul_one, Nat.add_comm] at this
      rw [this]
    · congr 1
      apply List.map_congr_left
      intro c hc
      have hlt : c < 2 ^ r.length := List.mem_range.1 hc
      rw [chs, if_neg (by rw [Nat.div_eq_of_lt hlt]; decide)]
def rol (d : List Int) : List (List Int) := ((List.range (d.length + 1)).map fun k => d.take k).reverse
/-- Sets that are one's own. -/
structure OwS (w : World) (base : Nat) (v : Value) (l : List St) : Prop where
  own : w.ownsRow base 55 1 v l.length (l.map (·.1))
  each : ∀ s ∈ l, w.ownsRow base 3 1 s.1 s.2.length (iv s.2)
theorem OwS.rds {w : World} {base : Nat} {v : Value} {l : List St} (h : OwS w base v l) : RdsS w v l := ⟨RdsK.of_own h.own, fun s hs => rds_own1 (h.each s hs)⟩
theorem OwS.up {w w' : World} {base : Nat} {v : Value} {l : List St} (h : OwS w base v l) (b : Below w.heap.size w w') : OwS w' base v l := ⟨own_below h.own b, fun s hs => own_below (h.each s hs) b⟩
theorem OwS.nil (w : World) (base : Nat) : OwS w base (.slice none 0 0) [] := ⟨World.ownsRow_nil _ _ _ _, fun _ h => by cases h⟩
theorem OwS.add {w w' : World} {base : Nat} {v v' : Value} {l : List St} {s : St} (h : OwS w base v l) (hs : w.ownsRow base 3 1 s.1 s.2.length (iv s.2))
    (hg : w.grownBy w' v.ownBlock) (ho : w'.ownsRow base 55 1 v' (l.length + 1) (l.map (·.1) ++ [s.1])) : OwS w' base v' (l ++ [s]) := by
  refine ⟨by rw [List.length_append, List.map_append]; exact ho, fun x hx => ?_⟩
  have hk : w.ownsRow base 3 1 x.1 x.2.length (iv x.2) := (List.mem_append.1 hx).elim (h.each x) (fun h => by rw [List.mem_singleton.1 h]; exact hs)
  exact own_grown hk hg fun g hgx => fun e => own_ne h.own hk (by decide) g e hgx
theorem Tryz.info_int : (Tryz.prog.info? 3).map (fun i => (i.zero, i.size, i.bytes)) = some (some (.int .i64 0), 1, 8) := by kernel_rfl
theorem Tryz.info_ints : (Tryz.prog.info? 55).map (fun i => (i.zero, i.size, i.bytes)) = some (some (.slice none 0 0), 1, 24) := by kernel_rfl
theorem one_rdI (w : World) (x : Value) (t : TypeId) (B : Nat) (hB : B = w.heap.size) : RdsK 1 (w.alloc (.cells #[x] t)) (.slice (some ⟨B, 0, none⟩) 1 1) 1 [x] := by
  subst hB
  refine ⟨some ⟨w.heap.size, 0, none⟩, 1, rfl, rfl, Nat.le_refl _, by decide, (fun h => by cases h), fun ad ha j u hj => ?_⟩
  cases ha
  rcases j with _ | j
  · simp at hj; subst hj; simp [Addr.add]
  · simp at hj
theorem iv_app (l m : List Int) : iv (l ++ m) = iv l ++ iv m := by simp [iv]
theorem qmax (m : Nat) (h : m ≤ 300) : m ≤ maxLen := by unfold maxLen; omega
theorem qby (m k : Nat) (h : m ≤ 300) (hk : k ≤ 24) : (m + m / 4 + 192) * k ≤ 281474976710656 := by
  have : (m + m / 4 + 192) * k ≤ 600 * 24 := Nat.mul_le_mul (by omega) hk
  omega
theorem and1_all : ∀ c : Fin 64, ∀ k : Fin 6, bits .and .i64 (((c : Nat) : Int) / 2 ^ (k : Nat)) 1 = (((c : Nat) / 2 ^ (k : Nat) % 2 : Nat) : Int) := by decide +kernel
set_option maxRecDepth 100000 in
set_option maxHeartbeats 4000000 in
theorem chosen_any (w : World) (v : Value) (dims : List Int) (h : Rds w v (iv dims)) (c : Nat) (hc : c < 64) (hn : dims.length ≤ 6) :
    Calls Tryz.prog 28 #[v, .int .i64 c] w fun e w' => ∃ v', e = .returned v' ∧ w'.ownsRow w.heap.size 3 1 v' (chs dims c).length (iv (chs dims c)) ∧ Below w.heap.size w w' := by
  obtain ⟨i0, hi0, hy0, hy1, hy2⟩ := info_parts Tryz.info_int
  obtain ⟨ao, n, cap, rfl⟩ := h.sl
  obtain ⟨e0, e1, e2, e3⟩ := h.ints
  have HH : Hid _ := h
  have HN : Hid (n = dims.length) := e0
  have hn6 : n ≤ 6 := by omega
  clear h e0 e1 e3 hn
  unfold maxLen at e2
  go_enter Tryz.func28, Tryz.ntmps28
  go_wp2_with fail
  go_loopg [5, 11] n (fun kx v5 v11 wr => ∃ (i : Nat) (s : List Int), v11 = .int .i64 i ∧ i ≤ n ∧ n - i ≤ kx ∧ Hid (s ++ chs (dims.drop i) c = chs dims c ∧ s.length ≤ i) ∧ Hid (wr.ownsRow w.heap.size 3 1 v5 s.length (iv s)) ∧ Hid (Below w.heap.size w wr))
  case atStart => exact ⟨0, [], rfl, by omega, Nat.le_refl _, ⟨by simp, by simp⟩, own_made0 w _ _, (Below.refl _ _).alloc (Nat.le_refl _) _⟩
  case round =>
    obtain ⟨i, s, rfl, hi, hkx, HR, HO, HB⟩ := hrel
    obtain ⟨a5, n5, c5, h5⟩ := own_sl HO.out
    subst h5
    by_cases hlt : i < n
    · have hltz : (i : Int) < (n : Int) := by omega
      have hil : i < dims.length := by have := HN.out; omega
      obtain ⟨-, -, -, k1⟩ := (Rds.below HH.out HB.out).ints
      obtain ⟨b, off, rfl, hcell⟩ := k1 (by omega)
      have hci := hcell i hil
      obtain ⟨x, hx⟩ : ∃ x, x = dims.getD i 0 := ⟨_, rfl⟩
      rw [← hx] at hci
      have HX : Hid _ := hx
      have hbit := and1_all ⟨c, hc⟩ ⟨n - 1 - i, by omega⟩
      simp only at hbit
      have hst : chs (dims.drop i) c = if c / 2 ^ (n - 1 - i) % 2 = 1 then x :: chs (dims.drop (i + 1)) c else chs (dims.drop (i + 1)) c := by
        rw [List.drop_eq_getElem_cons hil, chs, List.length_drop]
        have e1 : dims.length - (i + 1) = n - 1 - i := by have := HN.out; omega
        have e2 : dims[i] = x := by rw [HX.out]; simp [hil]
        rw [e1, e2]
      have HST : Hid _ := hst
      clear k1 hcell hx hst
      by_cases hb : c / 2 ^ (n - 1 - i) % 2 = 1
      · rw [hb] at hbit
        have hbe : bits .and .i64 ((c : Int) / 2 ^ (n - 1 - i)) 1 = 1 := hbit
        have hsr : Hid ((s ++ [x]) ++ chs (dims.drop (i + 1)) c = chs dims c ∧ (s ++ [x]).length ≤ i + 1) := by
          refine ⟨?_, by have := HR.out.2; simp; omega⟩
          have h1 := HR.out.1
          rw [HST.out, if_pos hb] at h1
          rw [List.append_assoc]; exact h1
        have rone := one_rdI wr (.int .i64 x) 3 _ rfl
        have HR1 : Hid _ := rone
        have HO5 : Hid ((wr.alloc (.cells #[.int .i64 x] 3)).ownsRow w.heap.size 3 1 (.slice a5 n5 c5) s.length (iv s)) := HO.out.alloc _
        have HB5 : Hid (Below w.heap.size w (wr.alloc (.cells #[.int .i64 x] 3))) := HB.out.alloc HB.out.size _
        have hza : s.length + 1 ≤ maxLen := qmax _ (by have := HR.out.2; omega)
        have hzb' : ((s.length + 1) + (s.length + 1) / 4 + 192) * 8 ≤ 281474976710656 := qby _ _ (by have := HR.out.2; omega) (by omega)
        have hws5 : w.heap.size ≤ (wr.alloc (.cells #[.int .i64 x] 3)).heap.size := HB5.out.size
        have HOO : Aside (∀ u ∈ [Value.int .i64 x], u.oneCell' = true) := fun u hu => by simp at hu; subst hu; rfl
        clear rone hbit hb
        go_wp2_with (first
          | (at_builtin; refine wpList_appK rfl _ _ 55 rfl w.heap.size 3 i0 (.int .i64 0) 1 8 Tryz.underlying55 hi0 hy0 hy1 hy2 rfl (by decide) _ _ _ rfl HO5.out _ _ _ rfl HR1.out HOO.out hza hzb' hws5 ?_; intro v7 w7 hown7 hgrow7 hnil7))
        go_roundg (n - (i + 1))
        case measure => omega
        case rel => exact ⟨i + 1, s ++ [x], by go_num, by omega, Nat.le_refl _, hsr, by show World.ownsRow _ _ _ _ _ _ _; rw [List.length_append, iv_app]; exact hown7, HB5.out.grown hgrow7 hws5 fun k hk => (World.ownsRow.lt HO5.out k hk).1⟩
      · have hb0 : c / 2 ^ (n - 1 - i) % 2 = 0 := by omega
        rw [hb0] at hbit
        have hbe : bits .and .i64 ((c : Int) / 2 ^ (n - 1 - i)) 1 = 0 := hbit
        have hsr : Hid (s ++ chs (dims.drop (i + 1)) c = chs dims c ∧ s.length ≤ i + 1) := by
          refine ⟨?_, by have := HR.out.2; omega⟩
          have h1 := HR.out.1
          rw [HST.out, if_neg hb] at h1
          exact h1
        clear hbit hb hb0
        go_wp2_with fail
        go_roundg (n - (i + 1))
        case measure => omega
        case rel => exact ⟨i + 1, s, by go_num, by omega, Nat.le_refl _, hsr, HO, HB⟩
    · have hltz : ¬ (i : Int) < (n : Int) := by omega
      have HF : Hid (s = chs dims c) := by
        show s = chs dims c
        have h1 := HR.out.1
        rw [List.drop_of_length_le (by have := HN.out; omega)] at h1
        simpa [chs] using h1
      go_wp2_with fail
      go_ret
      exact ⟨_, rfl, by rw [← HF.out]; exact HO.out, HB.out⟩
end Go.Proofs.YtiiihjihegilnaaGreatDoor
