/- The reference's Depth and Parts. -/
import Derived.Test.YtpdlioidiobbbaaRfs
namespace Go.Proofs.Ytpdlioidiobbbaa
open Go.RowKit

/-- What Depth tells. -/
def rdp : Nat → Fi.Tr → Nat
  | 0, _ => 1
  | n + 1, t => 1 + (t.ks.map (rdp n)).foldr max 0
def mx (l : List Nat) : Nat := l.foldr max 0
theorem mx_append (l m : List Nat) : mx (l ++ m) = max (mx l) (mx m) := by
  induction l with
  | nil => simp [mx]
  | cons a l ih => simp only [mx, List.cons_append, List.foldr_cons] at *; rw [ih]; omega
theorem mx_lt (l : List Nat) (k : Nat) : k < mx l ↔ ∃ x ∈ l, k < x := by
  induction l with
  | nil => simp [mx]
  | cons a l ih =>
    simp only [mx, List.foldr_cons, List.mem_cons, exists_eq_or_imp] at *
    rw [← ih]
    omega
theorem encAll_none {α : Type} (f : α → Option Bs) (l : List α) : encAll f l = none ↔ ∃ x ∈ l, f x = none := by
  induction l with
  | nil => simp [encAll]
  | cons a l ih =>
    simp only [encAll, List.mem_cons, exists_eq_or_imp]
    rw [← ih]
    cases f a <;> cases encAll f l <;> simp [cat]
theorem encAll_some {α : Type} (f : α → Option Bs) (g : α → Bs) (l : List α) (h : ∀ x ∈ l, f x = some (g x)) : encAll f l = some (l.flatMap g) := by
  induction l with
  | nil => rfl
  | cons a l ih =>
    simp only [encAll, List.flatMap_cons]
    rw [h a (by simp), ih fun x hx => h x (List.mem_cons_of_mem _ hx)]
    rfl
theorem e_txt_some (ts : List Fi.Str) : e_txt ts = some (r_txt ts) := by
  unfold e_txt el
  rw [encAll_some _ et ts fun _ _ => rfl]
  rfl
theorem cat_none {a b : Option Bs} : cat a b = none ↔ a = none ∨ b = none := by cases a <;> cases b <;> simp [cat]
theorem depth_none : ∀ (k : Nat) (t : Fi.Tr), k < rdp k t ↔ e_fil k t = none
  | 0, t => by simp [rdp, e_fil]
  | k + 1, t => by
    have e : k + 1 < rdp (k + 1) t ↔ k < mx (t.ks.map (rdp k)) := by unfold rdp mx; omega
    rw [e, mx_lt, e_fil_succ]
    simp only [cat_none, e_int, e_txt_some, el, reduceCtorEq, false_or, encAll_none]
    constructor
    · rintro ⟨x, hx, hk⟩
      obtain ⟨c, hc, rfl⟩ := List.mem_map.1 hx
      exact ⟨c, hc, (depth_none k c).1 hk⟩
    · rintro ⟨c, hc, hn⟩
      exact ⟨_, List.mem_map.2 ⟨c, hc, rfl⟩, (depth_none k c).2 hn⟩
theorem e_fil_some : ∀ (k : Nat) (t : Fi.Tr), e_fil k t ≠ none → e_fil k t = some (r_fil t)
  | 0, _, h => absurd rfl h
  | k + 1, t, h => by
    rw [e_fil_succ, e_txt_some, r_fil_eq]
    unfold el
    rw [encAll_some (e_fil k) r_fil t.ks fun x hx => e_fil_some k x fun hn => h ?_]
    · rfl
    · rw [e_fil_succ]
      simp only [cat_none, el]
      exact .inr (.inr (.inr (.inr (.inr (.inr ((encAll_none _ _).2 ⟨x, hx, hn⟩))))))
set_option maxRecDepth 100000 in
set_option maxHeartbeats 3200000 in
theorem depth_any : ∀ (k : Nat), k ≤ 20 → ∀ (t : Fi.Tr) (w : World), t.Ok w →
    Calls Try.prog 90 #[.agg #[.int .i64 t.k, .int .i64 t.d, t.tv, .int .i64 t.lo, .int .i64 t.hi, t.kv], .int .i64 ((k : Int) + 1)] w fun e w' => e = .returned (.int .i64 (rdp k t : Nat)) ∧ Fi.Grows w w' ∧ rdp k t ≤ k + 1 := by
  intro k
  induction k with
  | zero =>
    intro _ t w ho
    obtain ⟨a1, n1, c1, e1⟩ := lst_sl (rds_lst ho.rt)
    obtain ⟨a2, n2, c2, e2⟩ := lst_sl (tr_lst ho)
    obtain ⟨_, _, e3, hh1, hh2⟩ := (tr_lst ho).sl
    rw [e2] at e3
    simp only [Value.slice.injEq] at e3
    unfold maxLen at hh2
    have hn2 : n2 ≤ 9223372036854775807 := by omega
    rw [e1, e2]
    clear ho e1 e2 e3 hh1 hh2
    go_enter Try.func90, Try.ntmps90
    go_wp2_with fail
    go_loopg [5, 6] 1 (fun kx v5 v6 wr => v5 = .int .i64 0 ∧ v6 = .int .i64 0 ∧ Hid (wr = w.alloc (.cells #[.int .i64 t.k, .int .i64 t.d, .slice a1 n1 c1, .int .i64 t.lo, .int .i64 t.hi, .slice a2 n2 c2] 32)))
    case atStart => exact ⟨rfl, rfl, rfl⟩
    case round =>
      obtain ⟨rfl, rfl, HW⟩ := hrel
      have q5 : wr.cell? ⟨w.heap.size, 5, none⟩ = some (.slice a2 n2 c2) := by rw [HW.out]; simp
      have G : Fi.Grows w wr := by rw [HW.out]; exact Fi.Grows.alloc _ _
      by_cases h0 : (0 : Int) < (n2 : Int)
      · go_wp2_with fail
        go_ret
        exact ⟨rfl, G, Nat.le_refl _⟩
      · go_wp2_with fail
        go_ret
        exact ⟨rfl, G, Nat.le_refl _⟩
  | succ k ih =>
    intro hk t w ho
    obtain ⟨a1, n1, c1, e1⟩ := lst_sl (rds_lst ho.rt)
    have hls := tr_lst ho
    obtain ⟨ao, cap, e2, hh1, hh2⟩ := hls.sl
    unfold maxLen at hh2
    obtain ⟨n, hn⟩ : ∃ n, n = t.ks.length := ⟨_, rfl⟩
    rw [← hn] at e2 hh1
    rw [e2] at hls
    rw [e1, e2]
    have HLS : Hid (Lst 6 cl_fil w (.slice ao n cap) t.ks) := hls
    have HLN : Hid (n = t.ks.length) := hn
    have HOK : Aside (∀ c ∈ t.ks, c.Ok w) := ho.kid
    have HI : Aside _ := ih (by omega)
    clear ho e1 e2 hn hls ih
    go_enter Try.func90, Try.ntmps90
    go_wp2_with fail
    go_loopg [5, 6] n (fun kx v5 v6 wr => ∃ (i m : Nat), v6 = .int .i64 (i : Int) ∧ v5 = .int .i64 (m : Int) ∧ i ≤ n ∧ n - i ≤ kx ∧ m ≤ k + 1 ∧ Hid (m = mx ((t.ks.take i).map (rdp k))) ∧ Hid (Fi.Grows w wr) ∧ Hid (BxA wr w.heap.size 32 #[.int .i64 t.k, .int .i64 t.d, .slice a1 n1 c1, .int .i64 t.lo, .int .i64 t.hi, .slice ao n cap]))
    case atStart => exact ⟨0, 0, rfl, rfl, by omega, Nat.le_refl _, by omega, rfl, Fi.Grows.alloc _ _, BxA.new _ _ _⟩
    case round =>
      obtain ⟨i, m, rfl, rfl, hi, hkx, hmk, HM, HG, HX⟩ := hrel
      have q0 := HX.out.cell 0 _ rfl
      have q1 := HX.out.cell 1 _ rfl
      have q2 := HX.out.cell 2 _ rfl
      have q3 := HX.out.cell 3 _ rfl
      have q4 := HX.out.cell 4 _ rfl
      have q5 := HX.out.cell 5 _ rfl
      have hk1 : (1 : Int) < ((k + 1 : Nat) : Int) + 1 := by omega
      have hk2 : (1 : Int) < (k : Int) + 1 + 1 := by omega
      by_cases hlt : i < n
      · have hltz : (i : Int) < (n : Int) := by omega
        have hil : i < t.ks.length := by have := HLN.out; omega
        obtain ⟨bb, off, rfl, hbl, hc⟩ := lst_cell (k := 6) (f := cl_fil) (by decide) (fun _ => rfl) (HLS.out.below HG.out.below) (by omega)
        have htk : mx ((t.ks.take (i + 1)).map (rdp k)) = max (mx ((t.ks.take i).map (rdp k))) (rdp k t.ks[i]) := by
          rw [List.take_succ_eq_append_getElem hil, List.map_append, mx_append]
          simp [mx]
        obtain ⟨y, hy⟩ : ∃ y, t.ks[i] = y := ⟨_, rfl⟩
        have hym : y ∈ t.ks := by rw [← hy]; exact List.getElem_mem hil
        have yok := (HOK.out y hym).up HG.out.below
        obtain ⟨ya, yn, yc, ye⟩ := lst_sl (rds_lst yok.rt)
        obtain ⟨za, zn, zc, ze⟩ := lst_sl (tr_lst yok)
        have r0 : wr.cell? ⟨bb, off + i * 6, none⟩ = some (.int .i64 y.k) := by have := hc i hil 0 (.int .i64 y.k) (by omega) (by rw [hy]; rfl); simpa [Nat.add_assoc] using this
        have r1 : wr.cell? ⟨bb, off + i * 6 + 1, none⟩ = some (.int .i64 y.d) := by have := hc i hil 1 (.int .i64 y.d) (by omega) (by rw [hy]; rfl); simpa [Nat.add_assoc] using this
        have r2 : wr.cell? ⟨bb, off + i * 6 + 2, none⟩ = some (.slice ya yn yc) := by have := hc i hil 2 y.tv (by omega) (by rw [hy]; rfl); rw [ye] at this; simpa [Nat.add_assoc] using this
        have r3 : wr.cell? ⟨bb, off + i * 6 + 3, none⟩ = some (.int .i64 y.lo) := by have := hc i hil 3 (.int .i64 y.lo) (by omega) (by rw [hy]; rfl); simpa [Nat.add_assoc] using this
        have r4 : wr.cell? ⟨bb, off + i * 6 + 4, none⟩ = some (.int .i64 y.hi) := by have := hc i hil 4 (.int .i64 y.hi) (by omega) (by rw [hy]; rfl); simpa [Nat.add_assoc] using this
        have r5 : wr.cell? ⟨bb, off + i * 6 + 5, none⟩ = some (.slice za zn zc) := by have := hc i hil 5 y.kv (by omega) (by rw [hy]; rfl); rw [ze] at this; simpa [Nat.add_assoc] using this
        have kI := HI.out y wr yok
        rw [ye, ze] at kI
        rw [hy] at htk
        have HTK : Hid _ := htk
        obtain ⟨R, hR⟩ : ∃ R, R = rdp k y := ⟨_, rfl⟩
        rw [← hR] at kI
        have HRR : Hid (R = rdp k y) := hR
        clear htk hc hy ye ze yok hR
        go_wp2_with fail
        refine kI.mono ?_
        rintro e w2 ⟨rfl, g2, hR2⟩
        have HG2 : Hid (Fi.Grows w w2) := HG.out.trans g2
        have HX2 : Hid (BxA w2 w.heap.size 32 #[.int .i64 t.k, .int .i64 t.d, .slice a1 n1 c1, .int .i64 t.lo, .int .i64 t.hi, .slice (some ⟨bb, off, none⟩) n cap]) := HX.out.kt (KT.of_below g2.below) (by decide)
        clear g2 kI q0 q1 q2 q3 q4 q5 r0 r1 r2 r3 r4 r5
        by_cases hgt : (m : Int) < (R : Int)
        · go_wp2_with fail
          go_roundg (n - (i + 1))
          case measure => omega
          case rel => exact ⟨i + 1, R, by go_num, rfl, by omega, Nat.le_refl _, by omega, by apply hide; rw [HTK.out, ← HM.out, ← HRR.out]; omega, HG2, HX2⟩
        · go_wp2_with fail
          go_roundg (n - (i + 1))
          case measure => omega
          case rel => exact ⟨i + 1, m, by go_num, rfl, by omega, Nat.le_refl _, by omega, by apply hide; rw [HTK.out, ← HM.out, ← HRR.out]; omega, HG2, HX2⟩
      · have hltz : ¬ (i : Int) < (n : Int) := by omega
        go_wp2_with fail
        go_ret
        have e : rdp (k + 1) t = m + 1 := by
          have h1 := HM.out
          rw [List.take_of_length_le (by have := HLN.out; omega)] at h1
          show 1 + mx _ = _
          omega
        exact ⟨by rw [e]; exact ret_int (by omega), HG.out, by omega⟩
end Go.Proofs.Ytpdlioidiobbbaa
