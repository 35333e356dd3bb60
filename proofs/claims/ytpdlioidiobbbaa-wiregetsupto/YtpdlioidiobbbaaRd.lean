/- A reader in memory, and the contracts of fail and Uint. -/
import Derived.Test.YtpdlioidiobbbaaRefNums
import Derived.Test.YtpdlioidiobbbaaRdMath
namespace Go.Proofs.Ytpdlioidiobbbaa
open Go.RowKit

/-- A slice value reads as these bytes, which lie below block B. -/
def ReadsB (B : Nat) (w : World) (v : Value) (l : List UInt8) : Prop := Reads w v l ∧ ∀ ad n c, v = .slice (some ad) n c → 0 < n → ad.block < B
theorem ReadsB.keep {B : Nat} {w w' : World} {v : Value} {l : List UInt8} (h : ReadsB B w v l) (hb : Below B w w') : ReadsB B w' v l := by
  refine ⟨?_, h.2⟩
  obtain ⟨ao, cap, rfl, h1, h2, h3, h4⟩ := h.1
  refine ⟨ao, cap, rfl, h1, h2, h3, fun ad ha j u hj => ?_⟩
  have hl : 0 < l.length := by
    obtain ⟨hh, _⟩ := List.getElem?_eq_some_iff.1 hj
    rw [bv_length] at hh; omega
  have := h.2 ad _ _ (by rw [ha]) hl
  rw [hb.cell (p := ad.add j) (by simp only [Addr.add]; split <;> exact this)]
  exact h4 ad ha j u hj
theorem ReadsB.nil (B : Nat) (w : World) : ReadsB B w (.slice none 0 0) [] := ⟨Reads.nil w, fun _ _ _ h => by cases h⟩

/-- The program's reader of l in block R: behind p bytes, with the first error e. -/
def PS (B : Nat) (w : World) (R : Nat) (l : List UInt8) (p e : Nat) : Prop :=
  B ≤ R ∧ p ≤ l.length ∧ ∃ lv, w.heap[R]? = some (.cells #[lv, .int .i64 (e : Int)] 136 (0, 0)) ∧ ReadsB B w lv (if e = 0 then l.drop p else []) ∧ (e ≠ 0 → lv = .slice none 0 0)

theorem grown_setCell {w : World} {R j : Nat} {u : Value} : w.grownBy (w.setCell ⟨R, j, none⟩ u) (some R) :=
  ⟨rfl, rfl, rfl, by simp, fun k _ hk => heap_setCell_other w ⟨R, j, none⟩ k u (fun e => hk (by simp [e]))⟩
theorem grown_trans' {a b c : World} {r : Option Nat} (h : a.grownBy b r) (k : b.grownBy c r) : a.grownBy c r :=
  ⟨k.os.trans h.os, k.tape.trans h.tape, k.output.trans h.output, Nat.le_trans h.size k.size, fun i hi hr => (k.block i (Nat.lt_of_lt_of_le hi h.size) hr).trans (h.block i hi hr)⟩
theorem grown_B {B R : Nat} {w w' : World} (h : w.grownBy w' (some R)) (hB : B ≤ R) (hR : R < w.heap.size) : Below B w w' :=
  ⟨h.os, h.tape, h.output, h.size, fun k hk => h.block k (by omega) (by intro e; cases e; omega)⟩

set_option maxHeartbeats 400000 in
theorem fail_any (w : World) (R : Nat) (lv : Value) (e d : Int) (h : w.heap[R]? = some (.cells #[lv, .int .i64 e] 136 (0, 0))) :
    Calls Try.prog 94 #[.pointer (some ⟨R, 0, none⟩), .int .i64 d] w fun er w' => er = .returned (.tuple #[]) ∧ w'.heap[R]? = some (.cells #[.slice none 0 0, .int .i64 (if e = 0 then d else e)] 136 (0, 0)) ∧ w.grownBy w' (some R) := by
  have c1 : w.cell? ⟨R, 1, none⟩ = some (.int .i64 e) := by rw [cell_of_row w R 1 _ 136 (0, 0) h]; rfl
  have c0 : w.cell? ⟨R, 0, none⟩ = some lv := by rw [cell_of_row w R 0 _ 136 (0, 0) h]; rfl
  have f1 : w.frozen? ⟨R, 1, none⟩ = false := frozen_of_row w R 1 _ 136 h
  have f0 : w.frozen? ⟨R, 0, none⟩ = false := frozen_of_row w R 0 _ 136 h
  by_cases he : e = 0
  · subst he
    go_enter Try.func94, Try.ntmps94
    have g1 := heap_setCell_same w R 1 _ 136 (.int .i64 d) h
    have g0 := heap_setCell_same _ R 0 _ 136 (.slice none 0 0) g1
    go_wp2
    go_end0
    exact ⟨rfl, g0, grown_trans' grown_setCell grown_setCell⟩
  · have heb : (e == 0) = false := by rw [beq_eq_false_iff_ne]; exact he
    go_enter Try.func94, Try.ntmps94
    have g0 := heap_setCell_same _ R 0 _ 136 (.slice none 0 0) h
    go_wp2
    go_end0
    exact ⟨rfl, g0, grown_setCell⟩

set_option maxHeartbeats 400000 in
theorem uint_err (B : Nat) (w : World) (R : Nat) (l : List UInt8) (p e : Nat) (h : PS B w R l p e) (he : e ≠ 0) :
    Calls Try.prog 39 #[.pointer (some ⟨R, 0, none⟩)] w fun er w' => er = .returned (.int .u64 0) ∧ PS B w' R l p e ∧ w.grownBy w' (some R) := by
  obtain ⟨hB, hp, lv, hh, hr, hn⟩ := h
  obtain rfl := hn he
  have c0 : w.cell? ⟨R, 0, none⟩ = some (.slice none 0 0) := by rw [cell_of_row w R 0 _ 136 (0, 0) hh]; rfl
  have hR : R < w.heap.size := (Array.getElem?_eq_some_iff.1 hh).1
  go_enter Try.func39, Try.ntmps39
  go_wp2
  refine wp_loop_rounds 1 ?_
  rw [rounds_succ]
  go_wp2_with fail
  refine (fail_any w R _ _ _ hh).mono ?_
  rintro er w1 ⟨rfl, h1, hg1⟩
  rw [if_neg (by omega)] at h1
  go_wp2
  go_ret
  exact ⟨rfl, ⟨hB, hp, _, h1, by rw [if_neg he]; exact ReadsB.nil _ _, fun _ => rfl⟩, hg1⟩

theorem drop_cons (s : List UInt8) (k : Nat) (h : k < s.length) : s.drop k = s[k] :: s.drop (k + 1) := List.drop_eq_getElem_cons h

theorem ReadsB.cut_mid {B : Nat} {w : World} {b off n c : Nat} {s : List UInt8} (h : ReadsB B w (.slice (some ⟨b, off, none⟩) n c) s) (i m d : Nat) (hi : i ≤ s.length) (hm : m = s.length - i) (hd : d = c - i) : ReadsB B w (.slice (some ⟨b, off + i, none⟩) m d) (s.drop i) := by
  obtain ⟨⟨ao', cap', he, h1, h2, h3, h4⟩, hB⟩ := h
  simp only [Value.slice.injEq] at he
  obtain ⟨rfl, rfl, rfl⟩ := he
  subst hm hd
  refine ⟨⟨_, _, by rw [List.length_drop], by rw [List.length_drop]; omega, by omega, (fun h => by cases h), ?_⟩, ?_⟩
  · rintro ad ⟨rfl⟩ j u hj
    have hj' : (bv s)[i + j]? = some u := by
      simp only [bv, List.getElem?_map, List.getElem?_drop] at hj ⊢
      exact hj
    have := h4 _ rfl (i + j) u hj'
    rw [Addr.add_lit] at this ⊢
    rw [Nat.add_assoc]; exact this
  · intro ad n c hv hn
    cases hv
    exact hB ⟨b, off, none⟩ _ _ rfl (by omega)
theorem ReadsB.cut_end {B : Nat} {w : World} {s : List UInt8} (i m d : Nat) (a : Option Addr) (hi : s.length ≤ i) (hm : m = 0) (hd : d = 0) : ReadsB B w (.slice a m d) (s.drop i) := by
  subst hm hd
  rw [List.drop_of_length_le hi]
  refine ⟨⟨a, 0, rfl, Nat.le_refl _, Nat.zero_le _, (fun _ => ⟨rfl, rfl⟩), ?_⟩, ?_⟩
  · intro ad _ j u hj; simp [bv] at hj
  · intro ad n c hv hn
    simp only [Value.slice.injEq] at hv
    omega

theorem andNot_128 (x : Nat) (h : x < 256) : bits .andNot .u8 (x : Int) 128 = ((x % 128 : Nat) : Int) := by
  have h1 : bits .andNot .u8 (x : Int) ((128 : Nat) : Int) = ((x &&& (255 - 128) : Nat) : Int) := u8_andNot_nat x 128 h (by omega)
  refine h1.trans ?_
  have : x &&& 127 = x % 2 ^ 7 := Nat.and_two_pow_sub_one_eq_mod x 7
  show ((x &&& 127 : Nat) : Int) = _
  rw [this]

theorem or_walk (n x k : Nat) (hn : n < 2 ^ (7 * k)) (hk : k ≤ 8 ∨ (k = 9 ∧ x ≤ 1)) :
    bits .or .u64 (n : Int) (IntKind.u64.wrap ((x : Int) % 128 * 2 ^ (7 * k))) = ((n + x % 128 * 2 ^ (7 * k) : Nat) : Int) ∧ n + x % 128 * 2 ^ (7 * k) < 18446744073709551616 := by
  have h := Rd.or_u64 n (x % 128) k hn (Nat.mod_lt _ (by decide)) (by omega)
  rw [IntKind.wrap_u64]
  exact h
theorem last_ps {B R p k : Nat} {w : World} {l s : List UInt8} {lv u : Value} (hB : B ≤ R) (hp : p ≤ l.length) (hs : l.drop p = s) (hk : k + 1 ≤ s.length) (hh : w.heap[R]? = some (.cells #[lv, .int .i64 ((0 : Nat) : Int)] 136 (0, 0)))
    (hr : ReadsB B w u (s.drop (k + 1))) : PS B (w.setCell ⟨R, 0, none⟩ u) R l (p + (k + 1)) 0 := by
  refine ⟨hB, by subst hs; simp at hk; omega, u, heap_setCell_same w R 0 _ 136 u hh, ?_, fun h => absurd rfl h⟩
  rw [if_pos rfl, ← List.drop_drop, hs]
  exact hr.keep ((Below.refl _ _).setCell (p := ⟨R, 0, none⟩) hB u)
theorem uS_bad (l s : List UInt8) (p d : Nat) (hs : l.drop p = s) (h : (Rd.uvR s 0 0) = (0, 0, d)) (hd : d ≠ 0) : Rd.uS l p 0 = (0, p, d) := by
  unfold Rd.uS
  simp [hs, h, hd]
theorem uS_good (l s : List UInt8) (p n k : Nat) (hs : l.drop p = s) (h : (Rd.uvR s 0 0) = (n, k, 0)) : Rd.uS l p 0 = (n, p + k, 0) := by
  unfold Rd.uS
  simp [hs, h]

set_option maxRecDepth 100000 in
set_option maxHeartbeats 1600000 in
theorem uint_ok (B : Nat) (w : World) (R : Nat) (l : List UInt8) (p : Nat) (h : PS B w R l p 0) :
    Calls Try.prog 39 #[.pointer (some ⟨R, 0, none⟩)] w fun er w' => er = .returned (.int .u64 (Rd.uS l p 0).1) ∧ PS B w' R l (Rd.uS l p 0).2.1 (Rd.uS l p 0).2.2 ∧ w.grownBy w' (some R) := by
  obtain ⟨hB, hp, lv, hh, hr, _⟩ := h
  rw [if_pos rfl] at hr
  have hR : R < w.heap.size := (Array.getElem?_eq_some_iff.1 hh).1
  obtain ⟨ao, cap, rfl, h1, h2, h3, h4⟩ := id hr.1
  unfold maxLen at h2
  generalize hs : l.drop p = s at *
  have c0 : w.cell? ⟨R, 0, none⟩ = some (.slice ao s.length cap) := by rw [cell_of_row w R 0 _ 136 (0, 0) hh]; rfl
  have f0 : w.frozen? ⟨R, 0, none⟩ = false := frozen_of_row w R 0 _ 136 hh
  have hcl := hr.1.cells.2.2.2
  have HC := hide hcl
  have HS := hide hs
  have HH := hide hh
  have HR := hide hr
  clear hcl hs h3 h4 hh hr
  go_enter Try.func39, Try.ntmps39
  go_wp2
  go_loop [3, 13] (fun vn vi => ∃ k n : Nat, k ≤ s.length ∧ k ≤ 9 ∧ vi = .int .i64 k ∧ vn = .int .u64 n ∧ n < 2 ^ (7 * k) ∧ Rd.uvR s 0 0 = Rd.uvR (s.drop k) k n) (fun _ vi => s.length - (intOf vi).toNat)
  case atStart => exact ⟨0, 0, by omega, by omega, rfl, rfl, by decide, by simp⟩
  case round =>
    obtain ⟨k, n, hk, hk9, rfl, rfl, hn, hU⟩ := hrel
    have HU := hide hU
    have HN := hide hn
    clear hU hn
    by_cases hlt : k < s.length
    · obtain ⟨b, off, rfl, hcell⟩ := unhide HC (by omega)
      have hck := hcell k hlt
      have hcb := (s.getD k 0).toNat_lt
      have hx' : (s.getD k 0).toNat = s[k].toNat := by simp [hlt]
      have HD := hide (drop_cons s k hlt)
      have HCe := hide hcell
      clear hcell HC
      generalize (s.getD k 0).toNat = x at *
      by_cases h9 : k = 9
      · have hk9b : ((k : Int) == 9) = true := by rw [beq_iff_eq]; omega
        have hk0 : (0 : Int) < (k : Int) := by omega
        by_cases hx1 : 1 < x
        · have hx1' : (1 : Int) < (x : Int) := by omega
          have HB := hide (Rd.uvR_bad s[k] (s.drop (k + 1)) k n (by left; rw [← hx']; exact ⟨h9, hx1⟩))
          clear hx' HCe h9 hx1
          go_wp2_with fail
          refine (fail_any w R _ _ _ (unhide HH)).mono ?_
          rintro er w1 ⟨rfl, g1, g2⟩
          go_wp2
          go_ret
          have e := uS_bad l s p 12 (unhide HS) (by rw [unhide HU, unhide HD, unhide HB]) (by decide)
          rw [e]
          exact ⟨rfl, ⟨hB, hp, _, g1, ReadsB.nil _ _, fun _ => rfl⟩, g2⟩
        · have hx1' : ¬ (1 : Int) < (x : Int) := by omega
          by_cases hx0 : x = 0
          · have hx0' : ((x : Int) == 0) = true := by rw [beq_iff_eq]; omega
            have HB := hide (Rd.uvR_bad s[k] (s.drop (k + 1)) k n (by right; rw [← hx']; exact ⟨by omega, hx0⟩))
            clear hx' HCe h9 hx1 hx0
            go_wp2_with fail
            refine (fail_any w R _ _ _ (unhide HH)).mono ?_
            rintro er w1 ⟨rfl, g1, g2⟩
            go_wp2
            go_ret
            have e := uS_bad l s p 12 (unhide HS) (by rw [unhide HU, unhide HD, unhide HB]) (by decide)
            rw [e]
            exact ⟨rfl, ⟨hB, hp, _, g1, ReadsB.nil _ _, fun _ => rfl⟩, g2⟩
          · have hx0' : ((x : Int) == 0) = false := by rw [beq_eq_false_iff_ne]; omega
            have hx8 : (x : Int) < 128 := by omega
            have HN' := hide (or_walk n x k (unhide HN) (by omega))
            have HL := Rd.uvR_last s[k] (s.drop (k + 1)) k n (by rw [← hx']; omega) (by rw [← hx']; omega)
            rw [← hx'] at HL
            have E := hide (uS_good l s p _ _ (unhide HS) (by rw [unhide HU, unhide HD]; exact HL))
            have hand := andNot_128 x (by omega)
            have hkl : k + 1 ≤ s.length := hlt
            clear HL HCe hx' h9 hx1 hx0
            go_wp2
            · go_ret
              rw [unhide E]
              refine ⟨ret_int (unhide HN').1, last_ps hB hp (unhide HS) hkl (unhide HH) (ReadsB.cut_end (k + 1) _ _ _ (by omega) (by omega) (by omega)), grown_setCell⟩
            · go_ret
              rw [unhide E]
              refine ⟨ret_int (unhide HN').1, last_ps hB hp (unhide HS) hkl (unhide HH) ((unhide HR).cut_mid (k + 1) _ _ hkl (by omega) (by omega)), grown_setCell⟩
      · have hk9b : ((k : Int) == 9) = false := by rw [beq_eq_false_iff_ne]; omega
        by_cases hk0 : k = 0
        · have hk0' : ¬ (0 : Int) < (k : Int) := by omega
          by_cases hx8 : x < 128
          · have hx8' : (x : Int) < 128 := by omega
            have HN' := hide (or_walk n x k (unhide HN) (by omega))
            have HL := Rd.uvR_last s[k] (s.drop (k + 1)) k n (by rw [← hx']; omega) (by rw [← hx']; omega)
            rw [← hx'] at HL
            have E := hide (uS_good l s p _ _ (unhide HS) (by rw [unhide HU, unhide HD]; exact HL))
            have hand := andNot_128 x (by omega)
            have hkl : k + 1 ≤ s.length := hlt
            clear HL HCe hx' h9 hk0 hx8
            go_wp2
            · go_ret
              rw [unhide E]
              refine ⟨ret_int (unhide HN').1, last_ps hB hp (unhide HS) hkl (unhide HH) (ReadsB.cut_end (k + 1) _ _ _ (by omega) (by omega) (by omega)), grown_setCell⟩
            · go_ret
              rw [unhide E]
              refine ⟨ret_int (unhide HN').1, last_ps hB hp (unhide HS) hkl (unhide HH) ((unhide HR).cut_mid (k + 1) _ _ hkl (by omega) (by omega)), grown_setCell⟩
          · have hx8' : ¬ (x : Int) < 128 := by omega
            have HN' := hide (or_walk n x k (unhide HN) (by omega))
            have HX := hide (Rd.next_lt n (x % 128) k (unhide HN) (Nat.mod_lt _ (by decide)))
            have HM := Rd.uvR_more s[k] (s.drop (k + 1)) k n (by rw [← hx']; omega) (by rw [← hx']; omega)
            rw [← hx'] at HM
            have E := hide ((unhide HU).trans ((congrArg (fun z => Rd.uvR z k n) (unhide HD)).trans HM))
            have hand := andNot_128 x (by omega)
            have hk8 : k + 1 ≤ 9 := by omega
            have hkl : k + 1 ≤ s.length := hlt
            clear HM HCe hx' h9 hk0 hx8
            go_wp2
            go_round
            case rel => exact ⟨k + 1, _, hkl, hk8, by go_num, congrArg _ (unhide HN').1, unhide HX, unhide E⟩
            case measure => simp [intOf]; omega
        · have hk0' : (0 : Int) < (k : Int) := by omega
          by_cases hx0 : x = 0
          · have hx0' : ((x : Int) == 0) = true := by rw [beq_iff_eq]; omega
            have HB := hide (Rd.uvR_bad s[k] (s.drop (k + 1)) k n (by right; rw [← hx']; exact ⟨by omega, hx0⟩))
            clear hx' HCe h9 hk0 hx0
            go_wp2_with fail
            refine (fail_any w R _ _ _ (unhide HH)).mono ?_
            rintro er w1 ⟨rfl, g1, g2⟩
            go_wp2
            go_ret
            have e := uS_bad l s p 12 (unhide HS) (by rw [unhide HU, unhide HD, unhide HB]) (by decide)
            rw [e]
            exact ⟨rfl, ⟨hB, hp, _, g1, ReadsB.nil _ _, fun _ => rfl⟩, g2⟩
          · have hx0' : ((x : Int) == 0) = false := by rw [beq_eq_false_iff_ne]; omega
            by_cases hx8 : x < 128
            · have hx8' : (x : Int) < 128 := by omega
              have HN' := hide (or_walk n x k (unhide HN) (by omega))
              have HL := Rd.uvR_last s[k] (s.drop (k + 1)) k n (by rw [← hx']; omega) (by rw [← hx']; omega)
              rw [← hx'] at HL
              have E := hide (uS_good l s p _ _ (unhide HS) (by rw [unhide HU, unhide HD]; exact HL))
              have hand := andNot_128 x (by omega)
              have hkl : k + 1 ≤ s.length := hlt
              clear HL HCe hx' h9 hk0 hx0 hx8
              go_wp2
              · go_ret
                rw [unhide E]
                refine ⟨ret_int (unhide HN').1, last_ps hB hp (unhide HS) hkl (unhide HH) (ReadsB.cut_end (k + 1) _ _ _ (by omega) (by omega) (by omega)), grown_setCell⟩
              · go_ret
                rw [unhide E]
                refine ⟨ret_int (unhide HN').1, last_ps hB hp (unhide HS) hkl (unhide HH) ((unhide HR).cut_mid (k + 1) _ _ hkl (by omega) (by omega)), grown_setCell⟩
            · have hx8' : ¬ (x : Int) < 128 := by omega
              have HN' := hide (or_walk n x k (unhide HN) (by omega))
              have HX := hide (Rd.next_lt n (x % 128) k (unhide HN) (Nat.mod_lt _ (by decide)))
              have HM := Rd.uvR_more s[k] (s.drop (k + 1)) k n (by rw [← hx']; omega) (by rw [← hx']; omega)
              rw [← hx'] at HM
              have E := hide ((unhide HU).trans ((congrArg (fun z => Rd.uvR z k n) (unhide HD)).trans HM))
              have hand := andNot_128 x (by omega)
              have hk8 : k + 1 ≤ 9 := by omega
              have hkl : k + 1 ≤ s.length := hlt
              clear HM HCe hx' h9 hk0 hx0 hx8
              go_wp2
              go_round
              case rel => exact ⟨k + 1, _, hkl, hk8, by go_num, congrArg _ (unhide HN').1, unhide HX, unhide E⟩
              case measure => simp [intOf]; omega
    · go_wp2_with fail
      refine (fail_any w R _ _ _ (unhide HH)).mono ?_
      rintro er w1 ⟨rfl, g1, g2⟩
      go_wp2
      go_ret
      have e := uS_bad l s p 10 (unhide HS) (by rw [unhide HU, List.drop_of_length_le (by omega)]; rfl) (by decide)
      rw [e]
      exact ⟨rfl, ⟨hB, hp, _, g1, ReadsB.nil _ _, fun _ => rfl⟩, g2⟩

theorem uint_p (B : Nat) (w : World) (R : Nat) (l : List UInt8) (p e : Nat) (h : PS B w R l p e) :
    Calls Try.prog 39 #[.pointer (some ⟨R, 0, none⟩)] w fun er w' => er = .returned (.int .u64 (Rd.uS l p e).1) ∧ PS B w' R l (Rd.uS l p e).2.1 (Rd.uS l p e).2.2 ∧ w.grownBy w' (some R) := by
  by_cases he : e = 0
  · subst he
    exact uint_ok B w R l p h
  · have e1 : Rd.uS l p e = (0, p, e) := by unfold Rd.uS; rw [if_pos he]
    rw [e1]
    exact uint_err B w R l p e h he
end Go.Proofs.Ytpdlioidiobbbaa
