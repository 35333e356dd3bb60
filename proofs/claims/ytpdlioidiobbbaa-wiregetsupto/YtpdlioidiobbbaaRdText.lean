/- A reader in memory, and the contracts of fail and Uint. -/
import Derived.Test.YtpdlioidiobbbaaRefNums
import Derived.Test.YtpdlioidiobbbaaPMath
import Derived.Deep.DeepCutAuto
import Derived.Deep.RegionWith
import Derived.Deep.QuietTactic
import Derived.WalkSmall
import Derived.BigQuiet
import Derived.WalkLawsBesides
namespace Go.Proofs.Ytpdlioidiobbbaa
open Go.RowKit

/-- A slice value reads as these bytes, which lie below block B. -/
def ReadsB (B : Nat) (w : World) (v : Value) (l : List UInt8) : Prop := Reads w v l ∧ ∀ ad n c, v = .slice (some ad) n c → 0 < n → ad.block < B
theorem ReadsB.keep {B : Nat} {w w' : World} {v : Value} {l : List UInt8} (h : ReadsB B w v l) (hb : Below B w w') : ReadsB B w' v l := by
  refine ⟨?_, h.2⟩
  obtain ⟨ao, cap, rfl, h1, h2, h3, h4⟩ := h.1
  refine ⟨ao, cap, rfl, h1, h2, h3, fun ad ha j u hj => ?_⟩
  have hl : 0 < l.length := by
    obtain ⟨hh, _⟩ := List.getElem?_eq_some_iff.1 hj
    rw [bv_length] at hh; omega
  have := h.2 ad _ _ (by rw [ha]) hl
  rw [hb.cell (p := ad.add j) (by simp only [Addr.add]; split <;> exact this)]
  exact h4 ad ha j u hj
theorem ReadsB.nil (B : Nat) (w : World) : ReadsB B w (.slice none 0 0) [] := ⟨Reads.nil w, fun _ _ _ h => by cases h⟩

/-- The program's reader of l in block R: behind p bytes, with the first error e. -/
def PS (B : Nat) (w : World) (R : Nat) (l : List UInt8) (p e : Nat) : Prop :=
  B ≤ R ∧ p ≤ l.length ∧ ∃ lv, w.heap[R]? = some (.cells #[lv, .int .i64 (e : Int)] 136 (0, 0)) ∧ ReadsB B w lv (if e = 0 then l.drop p else []) ∧ (e ≠ 0 → lv = .slice none 0 0)

theorem grown_setCell {w : World} {R j : Nat} {u : Value} : w.grownBy (w.setCell ⟨R, j, none⟩ u) (some R) :=
  ⟨rfl, rfl, rfl, by simp, fun k _ hk => heap_setCell_other w ⟨R, j, none⟩ k u (fun e => hk (by simp [e]))⟩
theorem grown_trans' {a b c : World} {r : Option Nat} (h : a.grownBy b r) (k : b.grownBy c r) : a.grownBy c r :=
  ⟨k.os.trans h.os, k.tape.trans h.tape, k.output.trans h.output, Nat.le_trans h.size k.size, fun i hi hr => (k.block i (Nat.lt_of_lt_of_le hi h.size) hr).trans (h.block i hi hr)⟩
theorem grown_B {B R : Nat} {w w' : World} (h : w.grownBy w' (some R)) (hB : B ≤ R) (hR : R < w.heap.size) : Below B w w' :=
  ⟨h.os, h.tape, h.output, h.size, fun k hk => h.block k (by omega) (by intro e; cases e; omega)⟩

set_option maxHeartbeats 400000 in
theorem fail_any (w : World) (R : Nat) (lv : Value) (e d : Int) (h : w.heap[R]? = some (.cells #[lv, .int .i64 e] 136 (0, 0))) :
    Calls Try.prog 94 #[.pointer (some ⟨R, 0, none⟩), .int .i64 d] w fun er w' => er = .returned (.tuple #[]) ∧ w'.heap[R]? = some (.cells #[.slice none 0 0, .int .i64 (if e = 0 then d else e)] 136 (0, 0)) ∧ w.grownBy w' (some R) := by
  have c1 : w.cell? ⟨R, 1, none⟩ = some (.int .i64 e) := by rw [cell_of_row w R 1 _ 136 (0, 0) h]; rfl
  have c0 : w.cell? ⟨R, 0, none⟩ = some lv := by rw [cell_of_row w R 0 _ 136 (0, 0) h]; rfl
  have f1 : w.frozen? ⟨R, 1, none⟩ = false := frozen_of_row w R 1 _ 136 h
  have f0 : w.frozen? ⟨R, 0, none⟩ = false := frozen_of_row w R 0 _ 136 h
  by_cases he : e = 0
  · subst he
    go_enter Try.func94, Try.ntmps94
    have g1 := heap_setCell_same w R 1 _ 136 (.int .i64 d) h
    have g0 := heap_setCell_same _ R 0 _ 136 (.slice none 0 0) g1
    go_wp2
    go_end0
    exact ⟨rfl, g0, grown_trans' grown_setCell grown_setCell⟩
  · have heb : (e == 0) = false := by rw [beq_eq_false_iff_ne]; exact he
    go_enter Try.func94, Try.ntmps94
    have g0 := heap_setCell_same _ R 0 _ 136 (.slice none 0 0) h
    go_wp2
    go_end0
    exact ⟨rfl, g0, grown_setCell⟩

set_option maxHeartbeats 400000 in
theorem uint_err (B : Nat) (w : World) (R : Nat) (l : List UInt8) (p e : Nat) (h : PS B w R l p e) (he : e ≠ 0) :
    Calls Try.prog 39 #[.pointer (some ⟨R, 0, none⟩)] w fun er w' => er = .returned (.int .u64 0) ∧ PS B w' R l p e ∧ w.grownBy w' (some R) := by
  obtain ⟨hB, hp, lv, hh, hr, hn⟩ := h
  obtain rfl := hn he
  have c0 : w.cell? ⟨R, 0, none⟩ = some (.slice none 0 0) := by rw [cell_of_row w R 0 _ 136 (0, 0) hh]; rfl
  have hR : R < w.heap.size := (Array.getElem?_eq_some_iff.1 hh).1
  go_enter Try.func39, Try.ntmps39
  go_wp2
  refine wp_loop_rounds 1 ?_
  rw [rounds_succ]
  go_wp2_with fail
  refine (fail_any w R _ _ _ hh).mono ?_
  rintro er w1 ⟨rfl, h1, hg1⟩
  rw [if_neg (by omega)] at h1
  go_wp2
  go_ret
  exact ⟨rfl, ⟨hB, hp, _, h1, by rw [if_neg he]; exact ReadsB.nil _ _, fun _ => rfl⟩, hg1⟩

theorem drop_cons (s : List UInt8) (k : Nat) (h : k < s.length) : s.drop k = s[k] :: s.drop (k + 1) := List.drop_eq_getElem_cons h

theorem ReadsB.cut_mid {B : Nat} {w : World} {b off n c : Nat} {s : List UInt8} (h : ReadsB B w (.slice (some ⟨b, off, none⟩) n c) s) (i m d : Nat) (hi : i ≤ s.length) (hm : m = s.length - i) (hd : d = c - i) : ReadsB B w (.slice (some ⟨b, off + i, none⟩) m d) (s.drop i) := by
  obtain ⟨⟨ao', cap', he, h1, h2, h3, h4⟩, hB⟩ := h
  simp only [Value.slice.injEq] at he
  obtain ⟨rfl, rfl, rfl⟩ := he
  subst hm hd
  refine ⟨⟨_, _, by rw [List.length_drop], by rw [List.length_drop]; omega, by omega, (fun h => by cases h), ?_⟩, ?_⟩
  · rintro ad ⟨rfl⟩ j u hj
    have hj' : (bv s)[i + j]? = some u := by
      simp only [bv, List.getElem?_map, List.getElem?_drop] at hj ⊢
      exact hj
    have := h4 _ rfl (i + j) u hj'
    rw [Addr.add_lit] at this ⊢
    rw [Nat.add_assoc]; exact this
  · intro ad n c hv hn
    cases hv
    exact hB ⟨b, off, none⟩ _ _ rfl (by omega)
theorem ReadsB.cut_end {B : Nat} {w : World} {s : List UInt8} (i m d : Nat) (a : Option Addr) (hi : s.length ≤ i) (hm : m = 0) (hd : d = 0) : ReadsB B w (.slice a m d) (s.drop i) := by
  subst hm hd
  rw [List.drop_of_length_le hi]
  refine ⟨⟨a, 0, rfl, Nat.le_refl _, Nat.zero_le _, (fun _ => ⟨rfl, rfl⟩), ?_⟩, ?_⟩
  · intro ad _ j u hj; simp [bv] at hj
  · intro ad n c hv hn
    simp only [Value.slice.injEq] at hv
    omega

theorem andNot_128 (x : Nat) (h : x < 256) : bits .andNot .u8 (x : Int) 128 = ((x % 128 : Nat) : Int) := by
  have h1 : bits .andNot .u8 (x : Int) ((128 : Nat) : Int) = ((x &&& (255 - 128) : Nat) : Int) := u8_andNot_nat x 128 h (by omega)
  refine h1.trans ?_
  have : x &&& 127 = x % 2 ^ 7 := Nat.and_two_pow_sub_one_eq_mod x 7
  show ((x &&& 127 : Nat) : Int) = _
  rw [this]

theorem or_walk (n x k : Nat) (hn : n < 2 ^ (7 * k)) (hk : k ≤ 8 ∨ (k = 9 ∧ x ≤ 1)) :
    bits .or .u64 (n : Int) (IntKind.u64.wrap ((x : Int) % 128 * 2 ^ (7 * k))) = ((n + x % 128 * 2 ^ (7 * k) : Nat) : Int) ∧ n + x % 128 * 2 ^ (7 * k) < 18446744073709551616 := by
  have h := Rd.or_u64 n (x % 128) k hn (Nat.mod_lt _ (by decide)) (by omega)
  rw [IntKind.wrap_u64]
  exact h
theorem last_ps {B R p k : Nat} {w : World} {l s : List UInt8} {lv u : Value} (hB : B ≤ R) (hp : p ≤ l.length) (hs : l.drop p = s) (hk : k + 1 ≤ s.length) (hh : w.heap[R]? = some (.cells #[lv, .int .i64 ((0 : Nat) : Int)] 136 (0, 0)))
    (hr : ReadsB B w u (s.drop (k + 1))) : PS B (w.setCell ⟨R, 0, none⟩ u) R l (p + (k + 1)) 0 := by
  refine ⟨hB, by subst hs; simp at hk; omega, u, heap_setCell_same w R 0 _ 136 u hh, ?_, fun h => absurd rfl h⟩
  rw [if_pos rfl, ← List.drop_drop, hs]
  exact hr.keep ((Below.refl _ _).setCell (p := ⟨R, 0, none⟩) hB u)
theorem uS_bad (l s : List UInt8) (p d : Nat) (hs : l.drop p = s) (h : (Rd.uvR s 0 0) = (0, 0, d)) (hd : d ≠ 0) : Rd.uS l p 0 = (0, p, d) := by
  unfold Rd.uS
  simp [hs, h, hd]
theorem uS_good (l s : List UInt8) (p n k : Nat) (hs : l.drop p = s) (h : (Rd.uvR s 0 0) = (n, k, 0)) : Rd.uS l p 0 = (n, p + k, 0) := by
  unfold Rd.uS
  simp [hs, h]

set_option maxRecDepth 100000 in
set_option maxHeartbeats 1600000 in
theorem uint_ok (B : Nat) (w : World) (R : Nat) (l : List UInt8) (p : Nat) (h : PS B w R l p 0) :
    Calls Try.prog 39 #[.pointer (some ⟨R, 0, none⟩)] w fun er w' => er = .returned (.int .u64 (Rd.uS l p 0).1) ∧ PS B w' R l (Rd.uS l p 0).2.1 (Rd.uS l p 0).2.2 ∧ w.grownBy w' (some R) := by
  obtain ⟨hB, hp, lv, hh, hr, _⟩ := h
  rw [if_pos rfl] at hr
  have hR : R < w.heap.size := (Array.getElem?_eq_some_iff.1 hh).1
  obtain ⟨ao, cap, rfl, h1, h2, h3, h4⟩ := id hr.1
  unfold maxLen at h2
  generalize hs : l.drop p = s at *
  have c0 : w.cell? ⟨R, 0, none⟩ = some (.slice ao s.length cap) := by rw [cell_of_row w R 0 _ 136 (0, 0) hh]; rfl
  have f0 : w.frozen? ⟨R, 0, none⟩ = false := frozen_of_row w R 0 _ 136 hh
  have hcl := hr.1.cells.2.2.2
  have HC := hide hcl
  have HS := hide hs
  have HH := hide hh
  have HR := hide hr
  clear hcl hs h3 h4 hh hr
  go_enter Try.func39, Try.ntmps39
  go_wp2
  go_loop [3, 13] (fun vn vi => ∃ k n : Nat, k ≤ s.length ∧ k ≤ 9 ∧ vi = .int .i64 k ∧ vn = .int .u64 n ∧ n < 2 ^ (7 * k) ∧ Rd.uvR s 0 0 = Rd.uvR (s.drop k) k n) (fun _ vi => s.length - (intOf vi).toNat)
  case atStart => exact ⟨0, 0, by omega, by omega, rfl, rfl, by decide, by simp⟩
  case round =>
    obtain ⟨k, n, hk, hk9, rfl, rfl, hn, hU⟩ := hrel
    have HU := hide hU
    have HN := hide hn
    clear hU hn
    by_cases hlt : k < s.length
    · obtain ⟨b, off, rfl, hcell⟩ := unhide HC (by omega)
      have hck := hcell k hlt
      have hcb := (s.getD k 0).toNat_lt
      have hx' : (s.getD k 0).toNat = s[k].toNat := by simp [hlt]
      have HD := hide (drop_cons s k hlt)
      have HCe := hide hcell
      clear hcell HC
      generalize (s.getD k 0).toNat = x at *
      by_cases h9 : k = 9
      · have hk9b : ((k : Int) == 9) = true := by rw [beq_iff_eq]; omega
        have hk0 : (0 : Int) < (k : Int) := by omega
        by_cases hx1 : 1 < x
        · have hx1' : (1 : Int) < (x : Int) := by omega
          have HB := hide (Rd.uvR_bad s[k] (s.drop (k + 1)) k n (by left; rw [← hx']; exact ⟨h9, hx1⟩))
          clear hx' HCe h9 hx1
          go_wp2_with fail
          refine (fail_any w R _ _ _ (unhide HH)).mono ?_
          rintro er w1 ⟨rfl, g1, g2⟩
          go_wp2
          go_ret
          have e := uS_bad l s p 12 (unhide HS) (by rw [unhide HU, unhide HD, unhide HB]) (by decide)
          rw [e]
          exact ⟨rfl, ⟨hB, hp, _, g1, ReadsB.nil _ _, fun _ => rfl⟩, g2⟩
        · have hx1' : ¬ (1 : Int) < (x : Int) := by omega
          by_cases hx0 : x = 0
          · have hx0' : ((x : Int) == 0) = true := by rw [beq_iff_eq]; omega
            have HB := hide (Rd.uvR_bad s[k] (s.drop (k + 1)) k n (by right; rw [← hx']; exact ⟨by omega, hx0⟩))
            clear hx' HCe h9 hx1 hx0
            go_wp2_with fail
            refine (fail_any w R _ _ _ (unhide HH)).mono ?_
            rintro er w1 ⟨rfl, g1, g2⟩
            go_wp2
            go_ret
            have e := uS_bad l s p 12 (unhide HS) (by rw [unhide HU, unhide HD, unhide HB]) (by decide)
            rw [e]
            exact ⟨rfl, ⟨hB, hp, _, g1, ReadsB.nil _ _, fun _ => rfl⟩, g2⟩
          · have hx0' : ((x : Int) == 0) = false := by rw [beq_eq_false_iff_ne]; omega
            have hx8 : (x : Int) < 128 := by omega
            have HN' := hide (or_walk n x k (unhide HN) (by omega))
            have HL := Rd.uvR_last s[k] (s.drop (k + 1)) k n (by rw [← hx']; omega) (by rw [← hx']; omega)
            rw [← hx'] at HL
            have E := hide (uS_good l s p _ _ (unhide HS) (by rw [unhide HU, unhide HD]; exact HL))
            have hand := andNot_128 x (by omega)
            have hkl : k + 1 ≤ s.length := hlt
            clear HL HCe hx' h9 hx1 hx0
            go_wp2
            · go_ret
              rw [unhide E]
              refine ⟨ret_int (unhide HN').1, last_ps hB hp (unhide HS) hkl (unhide HH) (ReadsB.cut_end (k + 1) _ _ _ (by omega) (by omega) (by omega)), grown_setCell⟩
            · go_ret
              rw [unhide E]
              refine ⟨ret_int (unhide HN').1, last_ps hB hp (unhide HS) hkl (unhide HH) ((unhide HR).cut_mid (k + 1) _ _ hkl (by omega) (by omega)), grown_setCell⟩
      · have hk9b : ((k : Int) == 9) = false := by rw [beq_eq_false_iff_ne]; omega
        by_cases hk0 : k = 0
        · have hk0' : ¬ (0 : Int) < (k : Int) := by omega
          by_cases hx8 : x < 128
          · have hx8' : (x : Int) < 128 := by omega
            have HN' := hide (or_walk n x k (unhide HN) (by omega))
            have HL := Rd.uvR_last s[k] (s.drop (k + 1)) k n (by rw [← hx']; omega) (by rw [← hx']; omega)
            rw [← hx'] at HL
            have E := hide (uS_good l s p _ _ (unhide HS) (by rw [unhide HU, unhide HD]; exact HL))
            have hand := andNot_128 x (by omega)
            have hkl : k + 1 ≤ s.length := hlt
            clear HL HCe hx' h9 hk0 hx8
            go_wp2
            · go_ret
              rw [unhide E]
              refine ⟨ret_int (unhide HN').1, last_ps hB hp (unhide HS) hkl (unhide HH) (ReadsB.cut_end (k + 1) _ _ _ (by omega) (by omega) (by omega)), grown_setCell⟩
            · go_ret
              rw [unhide E]
              refine ⟨ret_int (unhide HN').1, last_ps hB hp (unhide HS) hkl (unhide HH) ((unhide HR).cut_mid (k + 1) _ _ hkl (by omega) (by omega)), grown_setCell⟩
          · have hx8' : ¬ (x : Int) < 128 := by omega
            have HN' := hide (or_walk n x k (unhide HN) (by omega))
            have HX := hide (Rd.next_lt n (x % 128) k (unhide HN) (Nat.mod_lt _ (by decide)))
            have HM := Rd.uvR_more s[k] (s.drop (k + 1)) k n (by rw [← hx']; omega) (by rw [← hx']; omega)
            rw [← hx'] at HM
            have E := hide ((unhide HU).trans ((congrArg (fun z => Rd.uvR z k n) (unhide HD)).trans HM))
            have hand := andNot_128 x (by omega)
            have hk8 : k + 1 ≤ 9 := by omega
            have hkl : k + 1 ≤ s.length := hlt
            clear HM HCe hx' h9 hk0 hx8
            go_wp2
            go_round
            case rel => exact ⟨k + 1, _, hkl, hk8, by go_num, congrArg _ (unhide HN').1, unhide HX, unhide E⟩
            case measure => simp [intOf]; omega
        · have hk0' : (0 : Int) < (k : Int) := by omega
          by_cases hx0 : x = 0
          · have hx0' : ((x : Int) == 0) = true := by rw [beq_iff_eq]; omega
            have HB := hide (Rd.uvR_bad s[k] (s.drop (k + 1)) k n (by right; rw [← hx']; exact ⟨by omega, hx0⟩))
            clear hx' HCe h9 hk0 hx0
            go_wp2_with fail
            refine (fail_any w R _ _ _ (unhide HH)).mono ?_
            rintro er w1 ⟨rfl, g1, g2⟩
            go_wp2
            go_ret
            have e := uS_bad l s p 12 (unhide HS) (by rw [unhide HU, unhide HD, unhide HB]) (by decide)
            rw [e]
            exact ⟨rfl, ⟨hB, hp, _, g1, ReadsB.nil _ _, fun _ => rfl⟩, g2⟩
          · have hx0' : ((x : Int) == 0) = false := by rw [beq_eq_false_iff_ne]; omega
            by_cases hx8 : x < 128
            · have hx8' : (x : Int) < 128 := by omega
              have HN' := hide (or_walk n x k (unhide HN) (by omega))
              have HL := Rd.uvR_last s[k] (s.drop (k + 1)) k n (by rw [← hx']; omega) (by rw [← hx']; omega)
              rw [← hx'] at HL
              have E := hide (uS_good l s p _ _ (unhide HS) (by rw [unhide HU, unhide HD]; exact HL))
              have hand := andNot_128 x (by omega)
              have hkl : k + 1 ≤ s.length := hlt
              clear HL HCe hx' h9 hk0 hx0 hx8
              go_wp2
              · go_ret
                rw [unhide E]
                refine ⟨ret_int (unhide HN').1, last_ps hB hp (unhide HS) hkl (unhide HH) (ReadsB.cut_end (k + 1) _ _ _ (by omega) (by omega) (by omega)), grown_setCell⟩
              · go_ret
                rw [unhide E]
                refine ⟨ret_int (unhide HN').1, last_ps hB hp (unhide HS) hkl (unhide HH) ((unhide HR).cut_mid (k + 1) _ _ hkl (by omega) (by omega)), grown_setCell⟩
            · have hx8' : ¬ (x : Int) < 128 := by omega
              have HN' := hide (or_walk n x k (unhide HN) (by omega))
              have HX := hide (Rd.next_lt n (x % 128) k (unhide HN) (Nat.mod_lt _ (by decide)))
              have HM := Rd.uvR_more s[k] (s.drop (k + 1)) k n (by rw [← hx']; omega) (by rw [← hx']; omega)
              rw [← hx'] at HM
              have E := hide ((unhide HU).trans ((congrArg (fun z => Rd.uvR z k n) (unhide HD)).trans HM))
              have hand := andNot_128 x (by omega)
              have hk8 : k + 1 ≤ 9 := by omega
              have hkl : k + 1 ≤ s.length := hlt
              clear HM HCe hx' h9 hk0 hx0 hx8
              go_wp2
              go_round
              case rel => exact ⟨k + 1, _, hkl, hk8, by go_num, congrArg _ (unhide HN').1, unhide HX, unhide E⟩
              case measure => simp [intOf]; omega
    · go_wp2_with fail
      refine (fail_any w R _ _ _ (unhide HH)).mono ?_
      rintro er w1 ⟨rfl, g1, g2⟩
      go_wp2
      go_ret
      have e := uS_bad l s p 10 (unhide HS) (by rw [unhide HU, List.drop_of_length_le (by omega)]; rfl) (by decide)
      rw [e]
      exact ⟨rfl, ⟨hB, hp, _, g1, ReadsB.nil _ _, fun _ => rfl⟩, g2⟩

theorem uint_p (B : Nat) (w : World) (R : Nat) (l : List UInt8) (p e : Nat) (h : PS B w R l p e) :
    Calls Try.prog 39 #[.pointer (some ⟨R, 0, none⟩)] w fun er w' => er = .returned (.int .u64 (Rd.uS l p e).1) ∧ PS B w' R l (Rd.uS l p e).2.1 (Rd.uS l p e).2.2 ∧ w.grownBy w' (some R) := by
  by_cases he : e = 0
  · subst he
    exact uint_ok B w R l p h
  · have e1 : Rd.uS l p e = (0, p, e) := by unfold Rd.uS; rw [if_pos he]
    rw [e1]
    exact uint_err B w R l p e h he
end Go.Proofs.Ytpdlioidiobbbaa

namespace Go.Proofs.Ytpdlioidiobbbaa
open Go.RowKit

/-- The reference's reader of v in block K: at p, with the first error e. -/
def KS (w : World) (K : Nat) (v : Value) (p e : Nat) : Prop := w.heap[K]? = some (.cells #[v, .int .i64 (p : Int), .int .i64 (e : Int)] 104 (0, 0))
theorem KS.cells {w : World} {K : Nat} {v : Value} {p e : Nat} (h : KS w K v p e) : w.cell? ⟨K, 0, none⟩ = some v ∧ w.cell? ⟨K, 1, none⟩ = some (.int .i64 (p : Int)) ∧ w.cell? ⟨K, 2, none⟩ = some (.int .i64 (e : Int)) ∧ (∀ j, w.frozen? ⟨K, j, none⟩ = false) := by
  refine ⟨?_, ?_, ?_, fun j => frozen_of_row w K j _ 104 h⟩
  · rw [cell_of_row w K 0 _ 104 (0, 0) h]; rfl
  · rw [cell_of_row w K 1 _ 104 (0, 0) h]; rfl
  · rw [cell_of_row w K 2 _ 104 (0, 0) h]; rfl
theorem grown_drewN (w : World) (n : Nat) (r : Option Nat) : w.grownBy (w.drewN n) r := ⟨rfl, rfl, rfl, Nat.le_refl _, fun _ _ _ => rfl⟩

theorem ks_at {w : World} {K : Nat} {v : Value} {p e q : Nat} {z : Int} (h : KS w K v p e) (hz : z = (q : Int)) : KS (w.setCell ⟨K, 1, none⟩ (.int .i64 z)) K v q e := by
  subst hz
  exact heap_setCell_same w K 1 _ 104 _ h
theorem ks_bad {w : World} {K : Nat} {v : Value} {p e d : Nat} {z : Int} (h : KS w K v p e) (hz : z = (d : Int)) : KS (w.setCell ⟨K, 2, none⟩ (.int .i64 z)) K v p d := by
  subst hz
  exact heap_setCell_same w K 2 _ 104 _ h

set_option maxHeartbeats 400000 in
theorem refrd_err (w : World) (K : Nat) (v : Value) (p e : Nat) (h : KS w K v p e) (he : e ≠ 0) :
    Calls Try.prog 59 #[.pointer (some ⟨K, 0, none⟩)] w fun er w' => er = .returned (.int .u64 0) ∧ w' = w := by
  obtain ⟨c0, c1, c2, f⟩ := h.cells
  have heb : ((e : Int) != 0) = true := by rw [bne_iff_ne]; omega
  clear h
  go_enter Try.func59, Try.ntmps59
  go_wp2
  go_ret
  exact ⟨rfl, rfl⟩

set_option maxRecDepth 100000 in
set_option maxHeartbeats 1600000 in
theorem refrd_ok (w : World) (K : Nat) (v : Value) (l : List UInt8) (p : Nat) (h : KS w K v p 0) (hr : Reads w v l) (hp : p ≤ l.length) :
    Calls Try.prog 59 #[.pointer (some ⟨K, 0, none⟩)] w fun er w' => er = .returned (.int .u64 (Rd.uS l p 0).1) ∧ KS w' K v (Rd.uS l p 0).2.1 (Rd.uS l p 0).2.2 ∧ w.grownBy w' (some K) := by
  obtain ⟨c0, c1, c2, f⟩ := h.cells
  obtain ⟨ao, cap, rfl, h1, h2, h3, h4⟩ := id hr
  unfold maxLen at h2
  have f1 := f 1
  have f2 := f 2
  have hcl := hr.cells.2.2.2
  have HC := hide hcl
  have HH := hide h
  clear hcl h3 h4 f h hr
  go_enter Try.func59, Try.ntmps59
  go_wp2
  go_loopw [3, 4] (fun vn vi wr => ∃ k n m : Nat, p + k ≤ l.length ∧ k ≤ 9 ∧ vi = .int .i64 k ∧ vn = .int .u64 n ∧ n < 2 ^ (7 * k) ∧ Rd.uvR (l.drop p) 0 0 = Rd.uvR (l.drop (p + k)) k n ∧ wr = w.drewN m) (fun _ vi _ => l.length - (intOf vi).toNat)
  case atStart => exact ⟨0, 0, 0, by omega, by omega, rfl, rfl, by decide, by simp, rfl⟩
  case round =>
    obtain ⟨k, n, m, hk, hk9, rfl, rfl, hn, hU, rfl⟩ := hrel
    have HU := hide hU
    have HN := hide hn
    clear hU hn
    by_cases hlt : p + k < l.length
    · obtain ⟨b, off, rfl, hcell⟩ := unhide HC (by omega)
      have hck := hcell (p + k) hlt
      have hcb := (l.getD (p + k) 0).toNat_lt
      have hx' : (l.getD (p + k) 0).toNat = l[p + k].toNat := by simp [hlt]
      have HD := hide (drop_cons l (p + k) hlt)
      clear hcell HC
      generalize (l.getD (p + k) 0).toNat = x at *
      have hq : ((p : Int) + (k : Int)) < (l.length : Int) := by omega
      by_cases h9 : k = 9
      · have hk9b : ((k : Int) == 9) = true := by rw [beq_iff_eq]; omega
        have hk0 : (0 : Int) < (k : Int) := by omega
        by_cases hx0 : x = 0
        · have hx0' : ((x : Int) == 0) = true := by rw [beq_iff_eq]; omega
          have HB := Rd.uvR_bad l[p + k] (l.drop (p + k + 1)) k n (by right; rw [← hx']; exact ⟨by omega, hx0⟩)
          have E := hide (uS_bad l _ p 12 rfl (by rw [unhide HU, unhide HD, HB]) (by decide))
          clear HB hx' h9 hx0
          go_wp2_with fail
          go_quiet (fail)
          go_wp2_with fail
          go_quiet (fail)
          go_wp2
          go_ret
          rw [unhide E]
          exact ⟨rfl, heap_setCell_same _ K 2 _ 104 (.int .i64 12) (unhide HH), grown_trans' (grown_drewN w _ _) grown_setCell⟩
        · have hx0' : ((x : Int) == 0) = false := by rw [beq_eq_false_iff_ne]; omega
          by_cases hx1 : 1 < x
          · have hx1' : (1 : Int) < (x : Int) := by omega
            have HB := Rd.uvR_bad l[p + k] (l.drop (p + k + 1)) k n (by left; rw [← hx']; exact ⟨h9, hx1⟩)
            have E := hide (uS_bad l _ p 12 rfl (by rw [unhide HU, unhide HD, HB]) (by decide))
            clear HB hx' h9 hx0 hx1
            go_wp2_with fail
            go_quiet (fail)
            go_wp2_with fail
            go_quiet (fail)
            go_wp2
            go_ret
            rw [unhide E]
            exact ⟨rfl, heap_setCell_same _ K 2 _ 104 (.int .i64 12) (unhide HH), grown_trans' (grown_drewN w _ _) grown_setCell⟩
          · have hx1' : ¬ (1 : Int) < (x : Int) := by omega
            have hx8 : (x : Int) < 128 := by omega
            have HN' := hide (or_walk n x k (unhide HN) (by omega))
            have HL := Rd.uvR_last l[p + k] (l.drop (p + k + 1)) k n (by rw [← hx']; omega) (by rw [← hx']; omega)
            rw [← hx'] at HL
            have E := hide (uS_good l _ p _ _ rfl (by rw [unhide HU, unhide HD]; exact HL))
            clear HL hx' h9 hx0 hx1
            go_wp2_with fail
            go_quiet (fail)
            go_wp2_with fail
            go_quiet (fail)
            go_wp2
            go_ret
            rw [unhide E]
            exact ⟨ret_int (unhide HN').1, ks_at (q := p + (k + 1)) (by exact unhide HH) (by omega), grown_trans' (grown_drewN w _ _) grown_setCell⟩
      · have hk9b : ((k : Int) == 9) = false := by rw [beq_eq_false_iff_ne]; omega
        by_cases hk0 : k = 0
        · have hk0' : ¬ (0 : Int) < (k : Int) := by omega
          by_cases hx8 : x < 128
          · have hx8' : (x : Int) < 128 := by omega
            have HN' := hide (or_walk n x k (unhide HN) (by omega))
            have HL := Rd.uvR_last l[p + k] (l.drop (p + k + 1)) k n (by rw [← hx']; omega) (by rw [← hx']; omega)
            rw [← hx'] at HL
            have E := hide (uS_good l _ p _ _ rfl (by rw [unhide HU, unhide HD]; exact HL))
            clear HL hx' h9 hk0 hx8
            go_wp2_with fail
            go_quiet (fail)
            go_wp2_with fail
            go_quiet (fail)
            go_wp2
            go_ret
            rw [unhide E]
            exact ⟨ret_int (unhide HN').1, ks_at (q := p + (k + 1)) (by exact unhide HH) (by omega), grown_trans' (grown_drewN w _ _) grown_setCell⟩
          · have hx8' : ¬ (x : Int) < 128 := by omega
            have HN' := hide (or_walk n x k (unhide HN) (by omega))
            have HX := hide (Rd.next_lt n (x % 128) k (unhide HN) (Nat.mod_lt _ (by decide)))
            have HM := Rd.uvR_more l[p + k] (l.drop (p + k + 1)) k n (by rw [← hx']; omega) (by rw [← hx']; omega)
            rw [← hx'] at HM
            have E := hide ((unhide HU).trans ((congrArg (fun z => Rd.uvR z k n) (unhide HD)).trans HM))
            have hk8 : k + 1 ≤ 9 := by omega
            have hkl : p + (k + 1) ≤ l.length := hlt
            clear HM hx' h9 hk0 hx8
            go_wp2_with fail
            go_quiet (fail)
            go_wp2_with fail
            go_quiet (fail)
            go_wp2
            go_roundw
            case rel => exact ⟨k + 1, _, _, hkl, hk8, by go_num, congrArg _ (unhide HN').1, unhide HX, unhide E, rfl⟩
            case measure => simp [intOf]; omega
        · have hk0' : (0 : Int) < (k : Int) := by omega
          by_cases hx0 : x = 0
          · have hx0' : ((x : Int) == 0) = true := by rw [beq_iff_eq]; omega
            have HB := Rd.uvR_bad l[p + k] (l.drop (p + k + 1)) k n (by right; rw [← hx']; exact ⟨by omega, hx0⟩)
            have E := hide (uS_bad l _ p 12 rfl (by rw [unhide HU, unhide HD, HB]) (by decide))
            clear HB hx' h9 hk0 hx0
            go_wp2_with fail
            go_quiet (fail)
            go_wp2_with fail
            go_quiet (fail)
            go_wp2
            go_ret
            rw [unhide E]
            exact ⟨rfl, heap_setCell_same _ K 2 _ 104 (.int .i64 12) (unhide HH), grown_trans' (grown_drewN w _ _) grown_setCell⟩
          · have hx0' : ((x : Int) == 0) = false := by rw [beq_eq_false_iff_ne]; omega
            by_cases hx8 : x < 128
            · have hx8' : (x : Int) < 128 := by omega
              have HN' := hide (or_walk n x k (unhide HN) (by omega))
              have HL := Rd.uvR_last l[p + k] (l.drop (p + k + 1)) k n (by rw [← hx']; omega) (by rw [← hx']; omega)
              rw [← hx'] at HL
              have E := hide (uS_good l _ p _ _ rfl (by rw [unhide HU, unhide HD]; exact HL))
              clear HL hx' h9 hk0 hx0 hx8
              go_wp2_with fail
              go_quiet (fail)
              go_wp2_with fail
              go_quiet (fail)
              go_wp2
              go_ret
              rw [unhide E]
              exact ⟨ret_int (unhide HN').1, ks_at (q := p + (k + 1)) (by exact unhide HH) (by omega), grown_trans' (grown_drewN w _ _) grown_setCell⟩
            · have hx8' : ¬ (x : Int) < 128 := by omega
              have HN' := hide (or_walk n x k (unhide HN) (by omega))
              have HX := hide (Rd.next_lt n (x % 128) k (unhide HN) (Nat.mod_lt _ (by decide)))
              have HM := Rd.uvR_more l[p + k] (l.drop (p + k + 1)) k n (by rw [← hx']; omega) (by rw [← hx']; omega)
              rw [← hx'] at HM
              have E := hide ((unhide HU).trans ((congrArg (fun z => Rd.uvR z k n) (unhide HD)).trans HM))
              have hk8 : k + 1 ≤ 9 := by omega
              have hkl : p + (k + 1) ≤ l.length := hlt
              clear HM hx' h9 hk0 hx0 hx8
              go_wp2_with fail
              go_quiet (fail)
              go_wp2_with fail
              go_quiet (fail)
              go_wp2
              go_roundw
              case rel => exact ⟨k + 1, _, _, hkl, hk8, by go_num, congrArg _ (unhide HN').1, unhide HX, unhide E, rfl⟩
              case measure => simp [intOf]; omega
    · have hq : ¬ ((p : Int) + (k : Int)) < (l.length : Int) := by omega
      have E := hide (uS_bad l _ p 10 rfl (by rw [unhide HU, List.drop_of_length_le (by omega)]; rfl) (by decide))
      go_wp2_with fail
      go_quiet (fail)
      go_wp2
      go_ret
      rw [unhide E]
      exact ⟨rfl, heap_setCell_same _ K 2 _ 104 (.int .i64 10) (unhide HH), grown_trans' (grown_drewN w _ _) grown_setCell⟩

theorem refrd_any (w : World) (K : Nat) (v : Value) (l : List UInt8) (p e : Nat) (h : KS w K v p e) (hr : Reads w v l) (hp : p ≤ l.length) :
    Calls Try.prog 59 #[.pointer (some ⟨K, 0, none⟩)] w fun er w' => er = .returned (.int .u64 (Rd.uS l p e).1) ∧ KS w' K v (Rd.uS l p e).2.1 (Rd.uS l p e).2.2 ∧ w.grownBy w' (some K) := by
  by_cases he : e = 0
  · subst he
    exact refrd_ok w K v l p h hr hp
  · have e1 : Rd.uS l p e = (0, p, e) := by unfold Rd.uS; rw [if_pos he]
    rw [e1]
    refine (refrd_err w K v p e h he).mono ?_
    rintro er w' ⟨rfl, rfl⟩
    exact ⟨rfl, h, World.grownBy.refl _ _⟩
end Go.Proofs.Ytpdlioidiobbbaa

namespace Go.Proofs.Ytpdlioidiobbbaa
open Go.RowKit

def lf (l : List UInt8) (p e : Nat) : Nat := if e = 0 then l.length - p else 0
def en (l : List UInt8) (p e : Nat) : Nat := if e ≠ 0 then e else if p < l.length then 12 else 0

theorem PS.shape {B : Nat} {w : World} {R : Nat} {l : List UInt8} {p e : Nat} (h : PS B w R l p e) : ∃ a c, w.heap[R]? = some (.cells #[.slice a (lf l p e) c, .int .i64 (e : Int)] 136 (0, 0)) ∧ ReadsB B w (.slice a (lf l p e) c) (if e = 0 then l.drop p else []) ∧ lf l p e ≤ c ∧ c ≤ maxLen := by
  obtain ⟨hB, hp, lv, hh, hr, hn⟩ := h
  obtain ⟨a, c, he, h1, h2, _⟩ := id hr.1
  have e1 : (if e = 0 then l.drop p else []).length = lf l p e := by unfold lf; split <;> simp
  rw [e1] at he h1
  subst he
  exact ⟨a, c, hh, hr, h1, h2⟩

set_option maxHeartbeats 400000 in
theorem left_p (B : Nat) (w : World) (R : Nat) (l : List UInt8) (p e : Nat) (h : PS B w R l p e) :
    Calls Try.prog 117 #[.pointer (some ⟨R, 0, none⟩)] w fun er w' => er = .returned (.int .i64 (lf l p e : Nat)) ∧ w' = w := by
  obtain ⟨a, c, hh, _, _⟩ := h.shape
  have c0 : w.cell? ⟨R, 0, none⟩ = some (.slice a (lf l p e) c) := by rw [cell_of_row w R 0 _ 136 (0, 0) hh]; rfl
  clear hh h
  generalize lf l p e = n at *
  go_enter Try.func117, Try.ntmps117
  go_wp2
  go_ret
  exact ⟨rfl, rfl⟩

set_option maxHeartbeats 400000 in
theorem left_k (w : World) (K : Nat) (v : Value) (l : List UInt8) (p e : Nat) (h : KS w K v p e) (hr : Reads w v l) (hp : p ≤ l.length) :
    Calls Try.prog 110 #[.pointer (some ⟨K, 0, none⟩)] w fun er w' => er = .returned (.int .i64 (lf l p e : Nat)) ∧ ∃ n, w' = w.drewN n := by
  obtain ⟨c0, c1, c2, f⟩ := h.cells
  obtain ⟨ao, cap, rfl, h1, h2, _⟩ := id hr
  unfold maxLen at h2
  clear h hr f
  by_cases he : e = 0
  · subst he
    have e1 : ((l.length : Int) - (p : Int)) = (lf l p 0 : Nat) := by unfold lf; rw [if_pos rfl]; omega
    have H := hide e1
    clear e1
    go_enter Try.func110, Try.ntmps110
    go_wp2_with fail
    go_quiet (fail)
    go_wp2
    go_ret
    exact ⟨ret_int (unhide H), _, rfl⟩
  · have heb : ((e : Int) != 0) = true := by rw [bne_iff_ne]; omega
    have e1 : lf l p e = 0 := by unfold lf; rw [if_neg he]
    rw [e1]
    clear e1
    go_enter Try.func110, Try.ntmps110
    go_wp2
    go_ret
    exact ⟨rfl, 0, rfl⟩

set_option maxHeartbeats 400000 in
theorem end_p (B : Nat) (w : World) (R : Nat) (l : List UInt8) (p e : Nat) (h : PS B w R l p e) :
    Calls Try.prog 57 #[.pointer (some ⟨R, 0, none⟩)] w fun er w' => er = .returned (.int .i64 (en l p e : Nat)) ∧ w' = w := by
  obtain ⟨a, c, hh, _, _⟩ := h.shape
  have c0 : w.cell? ⟨R, 0, none⟩ = some (.slice a (lf l p e) c) := by rw [cell_of_row w R 0 _ 136 (0, 0) hh]; rfl
  have c1 : w.cell? ⟨R, 1, none⟩ = some (.int .i64 (e : Int)) := by rw [cell_of_row w R 1 _ 136 (0, 0) hh]; rfl
  have hp := h.2.1
  clear hh h
  by_cases he : e = 0
  · subst he
    have hl : lf l p 0 = l.length - p := rfl
    rw [hl] at c0
    clear hl
    by_cases hlt : p < l.length
    · have hq : (0 : Int) < ((l.length - p : Nat) : Int) := by omega
      have e1 : en l p 0 = 12 := by simp [en, hlt]
      rw [e1]
      clear e1
      generalize l.length - p = n at *
      go_enter Try.func57, Try.ntmps57
      go_wp2
      go_ret
      exact ⟨rfl, rfl⟩
    · have hq : l.length - p = 0 := by omega
      rw [hq] at c0
      have e1 : en l p 0 = 0 := by simp [en, hlt]
      rw [e1]
      clear e1 hq
      go_enter Try.func57, Try.ntmps57
      go_wp2
      go_ret
      exact ⟨rfl, rfl⟩
  · have heb : ((e : Int) != 0) = true := by rw [bne_iff_ne]; omega
    have e1 : en l p e = e := by simp [en, he]
    rw [e1]
    clear e1
    go_enter Try.func57, Try.ntmps57
    go_wp2
    go_ret
    exact ⟨rfl, rfl⟩

set_option maxHeartbeats 400000 in
theorem end_k (w : World) (K : Nat) (v : Value) (l : List UInt8) (p e : Nat) (h : KS w K v p e) (hr : Reads w v l) :
    Calls Try.prog 68 #[.pointer (some ⟨K, 0, none⟩)] w fun er w' => er = .returned (.int .i64 (en l p e : Nat)) ∧ ∃ n, w' = w.drewN n := by
  obtain ⟨c0, c1, c2, f⟩ := h.cells
  obtain ⟨ao, cap, rfl, h1, h2, _⟩ := id hr
  unfold maxLen at h2
  clear h hr f
  by_cases he : e = 0
  · subst he
    by_cases hlt : p < l.length
    · have hq : (p : Int) < (l.length : Int) := by omega
      have e1 : en l p 0 = 12 := by simp [en, hlt]
      rw [e1]
      clear e1
      go_enter Try.func68, Try.ntmps68
      go_wp2_with fail
      go_quiet (fail)
      go_wp2
      go_ret
      exact ⟨rfl, _, rfl⟩
    · have hq : decide ((p : Int) < (l.length : Int)) = false := by simp; omega
      have e1 : en l p 0 = 0 := by simp [en, hlt]
      rw [e1]
      clear e1
      go_enter Try.func68, Try.ntmps68
      go_wp2_with fail
      go_quiet (fail)
      go_wp2
      go_ret
      exact ⟨rfl, _, rfl⟩
  · have heb : ((e : Int) == 0) = false := by rw [beq_eq_false_iff_ne]; omega
    have e1 : en l p e = e := by simp [en, he]
    rw [e1]
    clear e1
    go_enter Try.func68, Try.ntmps68
    go_wp2_with fail
    go_quiet (fail)
    go_wp2
    go_ret
    exact ⟨rfl, _, rfl⟩
end Go.Proofs.Ytpdlioidiobbbaa

namespace Go.Proofs.Ytpdlioidiobbbaa
open Go.RowKit

/-- How many things of at least so many bytes so many bytes can hold. -/
def lim (L : Nat) (least : Int) : Nat := if least < 1 then L else L / least.toNat
/-- What Count answers, where the reader is then, and its first error. -/
def cS (l : List UInt8) (p e : Nat) (least : Int) : Nat × Nat × Nat :=
  if (Rd.uS l p e).2.2 = 0 ∧ lim (lf l (Rd.uS l p e).2.1 0) least < (Rd.uS l p e).1 then (0, (Rd.uS l p e).2.1, 10) else Rd.uS l p e
theorem uS_err0 (l : List UInt8) (p e : Nat) (h : (Rd.uS l p e).2.2 ≠ 0) : (Rd.uS l p e).1 = 0 := by
  unfold Rd.uS at h ⊢
  split
  · rfl
  · rename_i he
    rw [if_neg he] at h
    simp only at h ⊢
    split
    · rename_i h0
      rw [if_pos h0] at h
      exact absurd rfl h
    · rfl
theorem lim_le (L : Nat) (least : Int) : lim L least ≤ L := by
  unfold lim; split
  · exact Nat.le_refl _
  · exact Nat.div_le_self _ _
theorem lf_zero (l : List UInt8) (p e : Nat) (h : e ≠ 0) : lf l p e = 0 := by unfold lf; rw [if_neg h]

set_option maxHeartbeats 800000 in
theorem count_p (B : Nat) (w : World) (R : Nat) (l : List UInt8) (p e : Nat) (least : Int) (h : PS B w R l p e) (hl1 : -9223372036854775808 ≤ least) (hl2 : least ≤ 9223372036854775807) (hlb : l.length ≤ 2 ^ 63 - 1) :
    Calls Try.prog 106 #[.pointer (some ⟨R, 0, none⟩), .int .i64 least] w fun er w' => er = .returned (.int .i64 (cS l p e least).1) ∧ PS B w' R l (cS l p e least).2.1 (cS l p e least).2.2 ∧ w.grownBy w' (some R) := by
  have hlt := Rd.uS_lt l p e
  have h0 := uS_err0 l p e
  have hcs : cS l p e least = if (Rd.uS l p e).2.2 = 0 ∧ lim (lf l (Rd.uS l p e).2.1 0) least < (Rd.uS l p e).1 then (0, (Rd.uS l p e).2.1, 10) else Rd.uS l p e := rfl
  go_enter Try.func106, Try.ntmps106
  go_wp2_with fail
  refine (uint_p B w R l p e h).mono ?_
  rintro er w1 ⟨rfl, h1, g1⟩
  obtain ⟨⟨n, p1, e1⟩, hx⟩ : ∃ x, Rd.uS l p e = x := ⟨_, rfl⟩
  rw [hx] at hlt h0 hcs h1 ⊢
  simp only at hlt h0 hcs h1 ⊢
  have HCS := hide hcs
  clear hx hcs h
  go_wp2_with fail
  refine (left_p B w1 R l p1 e1 h1).mono ?_
  rintro er w2 ⟨rfl, hw2⟩
  subst hw2
  have hL : lf l p1 e1 ≤ 2 ^ 63 - 1 := by unfold lf; split <;> omega
  have hLe := lf_zero l p1 e1
  have hL0 : e1 = 0 → lf l p1 0 = lf l p1 e1 := fun h => by rw [h]
  have hlim := lim_le (lf l p1 e1) least
  obtain ⟨a, c, hh, _⟩ := id h1.shape
  have HH := hide hh
  have hB := h1.1
  have hp1 := h1.2.1
  clear hh
  have hdec : (lim (lf l p1 e1) least < n → e1 = 0 ∧ cS l p e least = (0, p1, 10)) ∧ (¬ lim (lf l p1 e1) least < n → cS l p e least = (n, p1, e1)) := by
    rw [unhide HCS]
    constructor
    · intro hq
      have he : e1 = 0 := by
        by_cases he : e1 = 0
        · exact he
        · have := h0 he; omega
      rw [hL0 he, if_pos ⟨he, hq⟩]
      exact ⟨he, rfl⟩
    · intro hq
      rw [if_neg]
      rintro ⟨he, hq'⟩
      rw [hL0 he] at hq'
      exact hq hq'
  have HDEC := hide hdec
  clear hdec HCS hLe hL0 h0
  generalize hLL : lf l p1 e1 = L at *
  have HLL := hide hLL
  clear hLL
  by_cases hl : least < 1
  · have hlm : lim L least = L := by unfold lim; rw [if_pos hl]
    rw [hlm] at HDEC hlim
    clear hlm
    by_cases hq : L < n
    · have hq' : (L : Int) < (n : Int) := by omega
      go_wp2_with fail
      refine (fail_any w2 R _ _ _ (unhide HH)).mono ?_
      rintro er w3 ⟨rfl, g3, gr3⟩
      obtain ⟨he, hcc⟩ := (unhide HDEC).1 hq
      go_wp2
      go_ret
      rw [hcc]
      subst he
      exact ⟨rfl, ⟨hB, hp1, _, g3, ReadsB.nil _ _, fun _ => rfl⟩, grown_trans' g1 gr3⟩
    · have hq' : ¬ (L : Int) < (n : Int) := by omega
      have hcc := hide ((unhide HDEC).2 hq)
      go_wp2
      go_ret
      rw [unhide hcc]
      exact ⟨rfl, h1, g1⟩
  · obtain ⟨d, rfl⟩ : ∃ d : Nat, least = (d : Int) := ⟨least.toNat, by omega⟩
    have hlm : lim L (d : Int) = L / d := by unfold lim; rw [if_neg hl, Int.toNat_natCast]
    rw [hlm] at HDEC hlim
    clear hlm
    have hd1 : (1 : Int) ≤ (d : Int) := by omega
    obtain ⟨q, hdc, hqd⟩ : ∃ q : Nat, (L : Int) / (d : Int) = (q : Int) ∧ L / d = q := ⟨L / d, by simp, rfl⟩
    rw [hqd] at HDEC hlim
    clear hqd
    by_cases hq : q < n
    · have hq' : (q : Int) < (n : Int) := by omega
      go_wp2_with fail
      refine (fail_any w2 R _ _ _ (unhide HH)).mono ?_
      rintro er w3 ⟨rfl, g3, gr3⟩
      obtain ⟨he, hcc⟩ := (unhide HDEC).1 hq
      go_wp2
      go_ret
      rw [hcc]
      subst he
      exact ⟨rfl, ⟨hB, hp1, _, g3, ReadsB.nil _ _, fun _ => rfl⟩, grown_trans' g1 gr3⟩
    · have hq' : ¬ (q : Int) < (n : Int) := by omega
      have hcc := hide ((unhide HDEC).2 hq)
      go_wp2
      go_ret
      rw [unhide hcc]
      exact ⟨rfl, h1, g1⟩

set_option maxHeartbeats 800000 in
theorem count_k (w : World) (K : Nat) (v : Value) (l : List UInt8) (p e : Nat) (least : Int) (h : KS w K v p e) (hK : ∀ w', w.grownBy w' (some K) → Reads w' v l) (hp : p ≤ l.length) (hl1 : -9223372036854775808 ≤ least) (hl2 : least ≤ 9223372036854775807) (hlb : l.length ≤ 2 ^ 63 - 1) :
    Calls Try.prog 62 #[.pointer (some ⟨K, 0, none⟩), .int .i64 least] w fun er w' => er = .returned (.int .i64 (cS l p e least).1) ∧ KS w' K v (cS l p e least).2.1 (cS l p e least).2.2 ∧ w.grownBy w' (some K) := by
  have hlt := Rd.uS_lt l p e
  have hle := Rd.uS_le l p e hp
  have h0 := uS_err0 l p e
  have hcs : cS l p e least = if (Rd.uS l p e).2.2 = 0 ∧ lim (lf l (Rd.uS l p e).2.1 0) least < (Rd.uS l p e).1 then (0, (Rd.uS l p e).2.1, 10) else Rd.uS l p e := rfl
  go_enter Try.func62, Try.ntmps62
  go_wp2_with fail
  refine (refrd_any w K v l p e h (hK w (World.grownBy.refl _ _)) hp).mono ?_
  rintro er w1 ⟨rfl, h1, g1⟩
  obtain ⟨⟨n, p1, e1⟩, hx⟩ : ∃ x, Rd.uS l p e = x := ⟨_, rfl⟩
  rw [hx] at hlt h0 hcs h1 hle ⊢
  simp only at hlt h0 hcs h1 hle ⊢
  have hr1 := hK w1 g1
  have HCS := hide hcs
  have HH := hide h1
  have HRD := hide hr1
  obtain ⟨c0, c1, c2, f⟩ := h1.cells
  have f2 := f 2
  clear hx hcs h h1 hr1 hK f
  have hLb : lf l p1 0 ≤ 2 ^ 63 - 1 := by unfold lf; split <;> omega
  by_cases he : e1 = 0
  · subst he
    have heb : (((0 : Nat) : Int) == 0) = true := rfl
    have hdec : (lim (lf l p1 0) least < n → cS l p e least = (0, p1, 10)) ∧ (¬ lim (lf l p1 0) least < n → cS l p e least = (n, p1, 0)) := by
      rw [unhide HCS]
      exact ⟨fun hq => if_pos ⟨rfl, hq⟩, fun hq => if_neg (fun hh => hq hh.2)⟩
    have HDEC := hide hdec
    have hlim := lim_le (lf l p1 0) least
    have HLK := hide (fun u1 => left_k u1 K v l p1 0)
    clear hdec HCS h0
    generalize hLL : lf l p1 0 = L at *
    have HLL := hide hLL
    clear hLL
    by_cases hl : least < 1
    · have hlm : lim L least = L := by unfold lim; rw [if_pos hl]
      rw [hlm] at HDEC hlim
      clear hlm
      by_cases hq : L < n
      · have hq' : (L : Int) < (n : Int) := by omega
        have hcc := hide ((unhide HDEC).1 hq)
        go_wp2_with fail
        refine (unhide HLK _ (unhide HH) (unhide HRD) hle).mono ?_
        rintro er w2 ⟨rfl, m, hw2⟩
        subst hw2
        go_wp2
        go_ret
        rw [unhide hcc]
        exact ⟨rfl, ks_bad (w := w1.drewN m) (d := 10) (unhide HH) rfl, grown_trans' (grown_trans' g1 (grown_drewN _ _ _)) grown_setCell⟩
      · have hq' : ¬ (L : Int) < (n : Int) := by omega
        have hcc := hide ((unhide HDEC).2 hq)
        go_wp2_with fail
        refine (unhide HLK _ (unhide HH) (unhide HRD) hle).mono ?_
        rintro er w2 ⟨rfl, m, hw2⟩
        subst hw2
        go_wp2
        go_ret
        rw [unhide hcc]
        exact ⟨rfl, unhide HH, grown_trans' g1 (grown_drewN _ _ _)⟩
    · obtain ⟨d, rfl⟩ : ∃ d : Nat, least = (d : Int) := ⟨least.toNat, by omega⟩
      have hlm : lim L (d : Int) = L / d := by unfold lim; rw [if_neg hl, Int.toNat_natCast]
      rw [hlm] at HDEC hlim
      clear hlm
      have hd1 : (1 : Int) ≤ (d : Int) := by omega
      obtain ⟨q, hdc, hqd⟩ : ∃ q : Nat, (L : Int) / (d : Int) = (q : Int) ∧ L / d = q := ⟨L / d, by simp, rfl⟩
      rw [hqd] at HDEC hlim
      clear hqd
      by_cases hq : q < n
      · have hq' : (q : Int) < (n : Int) := by omega
        have hcc := hide ((unhide HDEC).1 hq)
        go_wp2_with fail
        refine (unhide HLK _ (unhide HH) (unhide HRD) hle).mono ?_
        rintro er w2 ⟨rfl, m, hw2⟩
        subst hw2
        go_wp2
        go_ret
        rw [unhide hcc]
        exact ⟨rfl, ks_bad (w := w1.drewN m) (d := 10) (unhide HH) rfl, grown_trans' (grown_trans' g1 (grown_drewN _ _ _)) grown_setCell⟩
      · have hq' : ¬ (q : Int) < (n : Int) := by omega
        have hcc := hide ((unhide HDEC).2 hq)
        go_wp2_with fail
        refine (unhide HLK _ (unhide HH) (unhide HRD) hle).mono ?_
        rintro er w2 ⟨rfl, m, hw2⟩
        subst hw2
        go_wp2
        go_ret
        rw [unhide hcc]
        exact ⟨rfl, unhide HH, grown_trans' g1 (grown_drewN _ _ _)⟩
  · have heb : ((e1 : Int) == 0) = false := by rw [beq_eq_false_iff_ne]; omega
    have hcc := hide (show cS l p e least = (n, p1, e1) by rw [unhide HCS, if_neg (fun hh => he hh.1)])
    have hn0 : n = 0 := h0 he
    have HN0 := hide hn0
    have hnb : (n : Int) ≤ 5 := by omega
    clear HCS h0 hn0
    by_cases hl : least < 1
    · go_wp2
      go_ret
      rw [unhide hcc]
      exact ⟨rfl, unhide HH, g1⟩
    · have hl' : ¬ least < 1 := hl
      go_wp2
      go_ret
      rw [unhide hcc]
      exact ⟨rfl, unhide HH, g1⟩
end Go.Proofs.Ytpdlioidiobbbaa

namespace Go.Proofs.Ytpdlioidiobbbaa
open Go.RowKit

/-- What Text answers, where the reader is then, and its first error. -/
def tS (l : List UInt8) (p e : Nat) : List UInt8 × Nat × Nat :=
  if (cS l p e 1).2.2 ≠ 0 then ([], (cS l p e 1).2.1, (cS l p e 1).2.2) else ((l.drop (cS l p e 1).2.1).take (cS l p e 1).1, (cS l p e 1).2.1 + (cS l p e 1).1, 0)
theorem cS_facts (l : List UInt8) (p e : Nat) (least : Int) (hp : p ≤ l.length) : (cS l p e least).2.1 ≤ l.length ∧ ((cS l p e least).2.2 ≠ 0 → (cS l p e least).1 = 0) ∧ ((cS l p e least).2.2 = 0 → (cS l p e least).2.1 + (cS l p e least).1 ≤ l.length) := by
  have h1 := Rd.uS_le l p e hp
  have h0 := uS_err0 l p e
  unfold cS
  split
  · exact ⟨h1, fun _ => rfl, fun h => by cases h⟩
  · rename_i hn
    refine ⟨h1, h0, fun he => ?_⟩
    have hlim := lim_le (lf l (Rd.uS l p e).2.1 0) least
    have : lf l (Rd.uS l p e).2.1 0 = l.length - (Rd.uS l p e).2.1 := rfl
    have : ¬ lim (lf l (Rd.uS l p e).2.1 0) least < (Rd.uS l p e).1 := fun hh => hn ⟨he, hh⟩
    omega

theorem conv_empty (w : World) (x : Option Addr) (c : Nat) : (convert 49 9 (.slice x 0 c)).run Try.prog w = .ok (.string ⟨#[]⟩) w := by
  cases x with
  | none => exact run_convert_bytes_nil w 49 5 Try.underlying49 Try.underlying5 0 c 9 Try.underlying9
  | some ad =>
    have hl : (loadCells ad 0).run Try.prog w = .ok ((([] : List Int)).map (Value.int .u8)).toArray w := run_loadCells_list (P := Try.prog) w ad [] (fun j u hj => by simp at hj)
    rw [run_convert_bytes_string w 49 9 5 _ _ _ Try.underlying49 Try.underlying5 Try.underlying9, run_bytesToString w ad 0 c _ hl]
    rfl

theorem text_ps {B R p n : Nat} {w : World} {l s : List UInt8} {lv u : Value} (hB : B ≤ R) (hp : p + n ≤ l.length) (hs : l.drop p = s) (hh : w.heap[R]? = some (.cells #[lv, .int .i64 ((0 : Nat) : Int)] 136 (0, 0)))
    (hr : ReadsB B w u (s.drop n)) : PS B (w.setCell ⟨R, 0, none⟩ u) R l (p + n) 0 := by
  refine ⟨hB, hp, u, heap_setCell_same w R 0 _ 136 u hh, ?_, fun h => absurd rfl h⟩
  rw [if_pos rfl, ← List.drop_drop, hs]
  exact hr.keep ((Below.refl _ _).setCell (p := ⟨R, 0, none⟩) hB u)

set_option maxRecDepth 100000 in
set_option maxHeartbeats 800000 in
theorem text_p (B : Nat) (w : World) (R : Nat) (l : List UInt8) (p e : Nat) (h : PS B w R l p e) (hlb : l.length ≤ 2 ^ 63 - 1) :
    Calls Try.prog 96 #[.pointer (some ⟨R, 0, none⟩)] w fun er w' => er = .returned (.string ⟨(tS l p e).1.toArray⟩) ∧ PS B w' R l (tS l p e).2.1 (tS l p e).2.2 ∧ w.grownBy w' (some R) := by
  obtain ⟨hp1, hz, hnz⟩ := cS_facts l p e 1 h.2.1
  have hts : tS l p e = if (cS l p e 1).2.2 ≠ 0 then ([], (cS l p e 1).2.1, (cS l p e 1).2.2) else ((l.drop (cS l p e 1).2.1).take (cS l p e 1).1, (cS l p e 1).2.1 + (cS l p e 1).1, 0) := rfl
  go_enter Try.func96, Try.ntmps96
  go_wp2_with fail
  refine (count_p B w R l p e 1 h (by omega) (by omega) hlb).mono ?_
  rintro er w1 ⟨rfl, h1, g1⟩
  obtain ⟨⟨n, p1, e1⟩, hx⟩ : ∃ x, cS l p e 1 = x := ⟨_, rfl⟩
  rw [hx] at hp1 hz hnz hts h1 ⊢
  simp only at hp1 hz hnz hts h1 ⊢
  have HTS := hide hts
  clear hx hts h
  by_cases hn : n = 0
  · subst hn
    have e2 : tS l p e = ([], p1, e1) := by
      rw [unhide HTS]
      split
      · rfl
      · rename_i he
        have : e1 = 0 := by omega
        subst this
        simp
    have E2 := hide e2
    clear e2 HTS
    go_wp2
    go_ret
    rw [unhide E2]
    exact ⟨rfl, h1, g1⟩
  · have he1 : e1 = 0 := by
      by_cases he : e1 = 0
      · exact he
      · exact absurd (hz he) hn
    subst he1
    have e2 : tS l p e = ((l.drop p1).take n, p1 + n, 0) := by rw [unhide HTS, if_neg (by simp)]
    have E2 := hide e2
    have hnl := hnz rfl
    have hB := h1.1
    obtain ⟨a, c, hh, hr, hc1, hc2⟩ := h1.shape
    rw [if_pos rfl] at hr
    have hLe : lf l p1 0 = l.length - p1 := rfl
    rw [hLe] at hh hr hc1
    have hrl : (l.drop p1).length = l.length - p1 := List.length_drop
    obtain ⟨b, off, rfl, hcl⟩ := hr.1.cells.2.2.2 (by omega)
    have hat : At w1 b off (l.drop p1) := by
      intro j u hj
      obtain ⟨hj1, _⟩ := List.getElem?_eq_some_iff.1 hj
      rw [bv_length] at hj1
      rw [bv_get _ j hj1] at hj
      rw [hcl j hj1]; exact hj
    have hcv := conv_string w1 (.slice (some ⟨b, off, none⟩) n c) ((l.drop p1).take n) ((show At w1 b off ((l.drop p1).take n) from hat.part 0 n).reads (by simp; omega) hc2 n (by simp; omega))
    have c0 : w1.cell? ⟨R, 0, none⟩ = some (.slice (some ⟨b, off, none⟩) (l.length - p1) c) := by rw [cell_of_row w1 R 0 _ 136 (0, 0) hh]; rfl
    have f0 : w1.frozen? ⟨R, 0, none⟩ = false := frozen_of_row w1 R 0 _ 136 hh
    have HH := hide hh
    have HR := hide hr
    have hnb : ((n : Int) == 0) = false := by rw [beq_eq_false_iff_ne]; omega
    have hn1 : 0 < n := by omega
    unfold maxLen at hc2
    clear hz hnz HTS h1 hh hr hcl hat e2 hn hLe
    obtain ⟨s, hs⟩ : ∃ s, l.drop p1 = s := ⟨_, rfl⟩
    obtain ⟨N, hN⟩ : ∃ N, l.length - p1 = N := ⟨_, rfl⟩
    rw [hs] at hrl HR hcv E2
    rw [hN] at hrl HR c0 HH hc1
    have hNn : n ≤ N := by omega
    have HS := hide hs
    have HRL := hide hrl
    have HP := hide hnl
    clear hs hN hrl hnl
    go_wp2
    · go_ret
      rw [unhide E2]
      have hl := unhide HRL
      exact ⟨rfl, text_ps hB (unhide HP) (unhide HS) (unhide HH) (ReadsB.cut_end n _ _ _ (by omega) (by omega) (by omega)), grown_trans' g1 grown_setCell⟩
    · go_ret
      rw [unhide E2]
      have hl := unhide HRL
      exact ⟨rfl, text_ps hB (unhide HP) (unhide HS) (unhide HH) ((unhide HR).cut_mid n _ _ (by omega) (by omega) (by omega)), grown_trans' g1 grown_setCell⟩

theorem conv_drewN (w : World) (v : Value) (l : List UInt8) (h : Reads w v l) (n : Nat) : (convert 49 9 v).run Try.prog (w.drewN n) = .ok (.string ⟨l.toArray⟩) (w.drewN n) := conv_string (w.drewN n) v l h

set_option maxRecDepth 100000 in
set_option maxHeartbeats 1600000 in
theorem text_k (w : World) (K : Nat) (v : Value) (l : List UInt8) (p e : Nat) (h : KS w K v p e) (hK : ∀ w', w.grownBy w' (some K) → Reads w' v l) (hp : p ≤ l.length) (hlb : l.length ≤ 2 ^ 63 - 1) :
    Calls Try.prog 109 #[.pointer (some ⟨K, 0, none⟩)] w fun er w' => er = .returned (.string ⟨(tS l p e).1.toArray⟩) ∧ KS w' K v (tS l p e).2.1 (tS l p e).2.2 ∧ w.grownBy w' (some K) := by
  obtain ⟨hp1, hz, hnz⟩ := cS_facts l p e 1 hp
  have hts : tS l p e = if (cS l p e 1).2.2 ≠ 0 then ([], (cS l p e 1).2.1, (cS l p e 1).2.2) else ((l.drop (cS l p e 1).2.1).take (cS l p e 1).1, (cS l p e 1).2.1 + (cS l p e 1).1, 0) := rfl
  go_enter Try.func109, Try.ntmps109
  go_wp2_with fail
  refine (count_k w K v l p e 1 h hK hp (by omega) (by omega) hlb).mono ?_
  rintro er w1 ⟨rfl, h1, g1⟩
  obtain ⟨⟨n, p1, e1⟩, hx⟩ : ∃ x, cS l p e 1 = x := ⟨_, rfl⟩
  rw [hx] at hp1 hz hnz hts h1 ⊢
  simp only at hp1 hz hnz hts h1 ⊢
  have hr := hK w1 g1
  have HTS := hide hts
  obtain ⟨c0, c1, c2, f⟩ := h1.cells
  have f1 := f 1
  have HH := hide h1
  clear hx hts h hK f h1
  by_cases he : e1 = 0
  · subst he
    have e2 : tS l p e = ((l.drop p1).take n, p1 + n, 0) := by rw [unhide HTS, if_neg (by simp)]
    have E2 := hide e2
    have hnl := hnz rfl
    clear hz hnz HTS e2
    have hi1 : (p1 : Int) + (n : Int) ≤ (l.length : Int) := by omega
    by_cases hlt : p1 < l.length
    · obtain ⟨ao, cap, rfl, q1, q2, q3, q4⟩ := id hr
      obtain ⟨b, off, rfl, hcl⟩ := hr.cells.2.2.2 (by omega)
      have hat : At w1 b off l := by
        intro j u hj
        obtain ⟨hj1, _⟩ := List.getElem?_eq_some_iff.1 hj
        rw [bv_length] at hj1
        rw [bv_get _ j hj1] at hj
        rw [hcl j hj1]; exact hj
      have hcv := conv_drewN w1 (.slice (some ⟨b, off + p1, none⟩) n (cap - p1)) ((l.drop p1).take n) ((hat.part p1 n).reads (by simp; omega) (by omega) n (by simp; omega))
      have hcp : ¬ cap = p1 := by omega
      unfold maxLen at q2
      clear q3 q4 hr hcl hat
      go_wp2_with fail
      go_quiet (fail)
      go_wp2
      go_ret
      rw [unhide E2]
      exact ⟨rfl, ks_at (w := w1.drewN nq) (q := p1 + n) (unhide HH) (by omega), grown_trans' g1 (grown_trans' (grown_drewN _ _ _) grown_setCell)⟩
    · obtain rfl : n = 0 := by omega
      obtain rfl : p1 = l.length := by omega
      have e3 : tS l p e = ([], l.length, 0) := by rw [unhide E2]; simp
      have E3 := hide e3
      have hce := conv_empty
      obtain ⟨ao, cap, rfl, q1, q2, q3, q4⟩ := id hr
      unfold maxLen at q2
      clear q4 hr e3 E2 hlt
      cases ao with
      | none =>
        obtain ⟨z1, rfl⟩ := q3 rfl
        rw [z1] at c0 c1 HH
        have HZ := hide z1
        clear q3 z1 hi1 hnl hp1 q1
        go_wp2_with fail
        go_quiet (fail)
        go_wp2
        go_ret
        rw [unhide E3, unhide HZ]
        exact ⟨rfl, ks_at (w := w1.drewN nq) (q := 0) (unhide HH) (by omega), grown_trans' g1 (grown_trans' (grown_drewN _ _ _) grown_setCell)⟩
      | some ad =>
        clear q3
        by_cases hcp : cap = l.length
        · subst hcp
          clear q1
          go_wp2_with fail
          go_quiet (fail)
          go_wp2
          go_ret
          rw [unhide E3]
          exact ⟨rfl, ks_at (w := w1.drewN nq) (q := l.length) (unhide HH) (by omega), grown_trans' g1 (grown_trans' (grown_drewN _ _ _) grown_setCell)⟩
        · go_wp2_with fail
          go_quiet (fail)
          go_wp2
          go_ret
          rw [unhide E3]
          exact ⟨rfl, ks_at (w := w1.drewN nq) (q := l.length) (unhide HH) (by omega), grown_trans' g1 (grown_trans' (grown_drewN _ _ _) grown_setCell)⟩
  · have heb : ((e1 : Int) != 0) = true := by rw [bne_iff_ne]; omega
    have e2 : tS l p e = ([], p1, e1) := by rw [unhide HTS, if_pos he]
    have E2 := hide e2
    clear hz hnz HTS e2
    go_wp2
    go_ret
    rw [unhide E2]
    exact ⟨rfl, unhide HH, g1⟩
end Go.Proofs.Ytpdlioidiobbbaa
