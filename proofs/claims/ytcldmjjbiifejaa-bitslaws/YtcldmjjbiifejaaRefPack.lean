/- The contract of the reference's Pack. -/
import Derived.Test.YtcldmjjbiifejaaPack
namespace Go.Proofs.Ytcldmjjbiifejaa
open Go.RowKit

theorem take_num {wd : Nat} {l : List Int} {k x : Nat} (hk : k < l.length) (hx : l.getD k 0 = (x : Int)) : num wd (l.take (k + 1)) = num wd (l.take k) + 2 ^ (wd * k) * x := by
  have e : l.take (k + 1) = l.take k ++ [(x : Int)] := by
    rw [List.take_add_one, List.getElem?_eq_getElem hk]
    simp [hk] at hx
    simp [hx]
  unfold num
  rw [e, List.map_append, ofd_append]
  simp [ofd, Nat.min_eq_left (Nat.le_of_lt hk)]
theorem take_fits {wd : Nat} {l : List Int} {k x : Nat} (hk : k < l.length) (hx : l.getD k 0 = (x : Int)) (hl : x < 2 ^ wd) (h : fits (l.take k) wd = true) : fits (l.take (k + 1)) wd = true := by
  have e : l.take (k + 1) = l.take k ++ [(x : Int)] := by
    rw [List.take_add_one, List.getElem?_eq_getElem hk]
    simp [hk] at hx
    simp [hx]
  unfold fits at *
  rw [e, List.all_append, h]
  have : (x : Int) < 2 ^ wd := by exact_mod_cast hl
  simp [this]
theorem made_nv (k : IntKind) (m j : Nat) : (madeCells (Value.int k 0).cells (m * 1)).toList = nv k (dg j m 0) := by
  rw [Nat.mul_one]
  refine (toList_madeCells_one _ m).trans ?_
  apply List.ext_getElem
  · simp [nv, dg]
  · intro i h1 h2
    simp [nv, dg]
theorem bit_more (P T x j : Nat) (h : x / 2 ^ j % 2 = 1) : P + 2 ^ T * (x % 2 ^ j) + 2 ^ (T + j) = P + 2 ^ T * (x % 2 ^ (j + 1)) := by
  rw [Nat.pow_succ 2 j, Nat.mod_mul, h, Nat.mul_one, Nat.mul_add, Nat.pow_add]; omega
theorem bit_same (P T x j : Nat) (h : ¬ x / 2 ^ j % 2 = 1) : P + 2 ^ T * (x % 2 ^ j) = P + 2 ^ T * (x % 2 ^ (j + 1)) := by
  rw [Nat.pow_succ 2 j, Nat.mod_mul, show x / 2 ^ j % 2 = 0 by omega]; simp
theorem part_lt {P T x j : Nat} (hP : P < 2 ^ T) : P + 2 ^ T * (x % 2 ^ j) < 2 ^ (T + j) := by
  have h1 : x % 2 ^ j + 1 ≤ 2 ^ j := Nat.mod_lt _ (Nat.two_pow_pos _)
  have h2 := Nat.mul_le_mul_left (2 ^ T) h1
  rw [Nat.mul_add] at h2
  rw [Nat.pow_add]; omega

set_option maxHeartbeats 800000 in
theorem refpack_any (w : World) (v : Value) (l : List Int) (wd : Nat) (h : Rds w v (iv l)) (hw : wd ≤ 32) (hi : Ints l) (hl : l.length ≤ 5000) :
    Calls Try.prog 8 #[v, .int .i64 wd] w fun e w' => (fits l wd = true → ∃ v', e = .returned (.tuple #[v', .int .i64 0]) ∧
      Own w' w.heap.size 5 v' (nv .u8 (dg 8 ((wd * l.length + 7) / 8) (num wd l)))) ∧ (fits l wd = false → e = .returned (.tuple #[.slice none 0 0, .int .i64 1])) ∧ Below w.heap.size w w' := by
  obtain ⟨ao, n, cap, rfl⟩ : ∃ ao n cap, v = .slice ao n cap := by obtain ⟨ao, cap, rfl, _⟩ := h; exact ⟨_, _, _, rfl⟩
  obtain ⟨rfl, h1, h2, h3⟩ := h.cells
  simp only [iv_length] at *
  have hw' : (wd : Int) ≤ 32 := by omega
  have hprod : wd * l.length ≤ 160000 := by
    have := Nat.mul_le_mul hw hl
    omega
  obtain ⟨TT, hTT⟩ : ∃ TT, TT = wd * l.length := ⟨_, rfl⟩
  have eT : (wd : Int) * (l.length : Int) = (TT : Int) := by rw [hTT]; norm_cast
  rw [← hTT] at hprod ⊢
  obtain ⟨M, hM⟩ : ∃ M, M = (TT + 7) / 8 := ⟨_, rfl⟩
  rw [← hM]
  have hMl : M ≤ 20001 := by omega
  obtain ⟨i0, hin, hz0, hz1, hz2⟩ := info_parts Try.info_u8
  have HT := hide hTT
  have HM := hide hM
  clear hTT hM
  go_enter Try.func8, Try.ntmps8
  go_wp2_with fail
  refine (long_any w TT (by omega)).mono ?_
  rintro e1 w3 ⟨rfl, rfl⟩
  rw [← unhide HM]
  go_wp2_with (first
    | (at_make; refine wpList_make_full _ rfl _ _ 23 rfl w3.heap.size 5 i0 (.int .u8 0) 1 Try.underlying23 hin hz0 hz1 .i64 .i64 _ _ M rfl rfl (by omega) (by omega) (by rw [hz2]; omega) (by unfold maxLen; omega) (Nat.le_refl _) ?_; intro w0 hown0 hgrow0))
  have hb0 : Below w3.heap.size w3 w0 := (Below.refl _ _).grown hgrow0 (Nat.le_refl _) (by simp)
  rw [made_nv _ _ 8] at hown0
  clear hgrow0
  go_loopw [7, 8] (fun va i wr => ∃ k T : Nat, k ≤ l.length ∧ i = .int .i64 k ∧ Hid (T = wd * k) ∧ va = .int .i64 (T : Int) ∧ Hid (fits (l.take k) wd = true) ∧
      wr.ownsRow w3.heap.size 5 1 (.slice (some ⟨w3.heap.size, 0, none⟩) M M) M (nv .u8 (dg 8 M (num wd (l.take k)))) ∧ Below w3.heap.size w3 wr) (fun _ i _ => l.length - (intOf i).toNat)
  case atStart => exact ⟨0, 0, by omega, rfl, hide (by simp), rfl, hide rfl, hown0, hb0⟩
  case round =>
    obtain ⟨k, T, hk, rfl, HTk, rfl, HF, hown, hbel⟩ := hrel
    by_cases hlt : k < l.length
    · have hlt' : (k : Int) < (l.length : Int) := by omega
      obtain ⟨b, off, rfl, hc⟩ := h3 (by omega)
      have hck := hc k _ (iv_get l k hlt)
      rw [← hbel.cell (World.block_lt_of_cell? _ _ hck)] at hck
      have hT : T + wd ≤ TT := by
        rw [unhide HT, unhide HTk, ← Nat.mul_succ]; exact Nat.mul_le_mul_left _ hlt
      obtain ⟨z, hz⟩ : ∃ z, z = l.getD k 0 := ⟨_, rfl⟩
      have hzb := hi.at k hlt
      rw [← hz] at hck hzb
      have HZ := hide hz
      have hp32 : 2 ^ wd ≤ 2 ^ 32 := Nat.pow_le_pow_right (by decide) hw
      obtain ⟨p, hp⟩ : ∃ p, p = 2 ^ wd := ⟨_, rfl⟩
      rw [← hp] at hp32
      have hpi : (2 : Int) ^ wd = (p : Int) := by rw [hp]; norm_cast
      have hpi1 : (1 : Int) * (2 : Int) ^ wd = (p : Int) := by rw [hp]; norm_cast; simp
      have hp3 : p ≤ 4294967296 := by omega
      have HP := hide hp
      clear hz hp hp32
      by_cases hneg : z < 0
      · go_wp2
        go_ret2
        exact ⟨fun hh => absurd (fits_at hh hlt) (by rw [← unhide HZ]; omega), fun _ => rfl, hbel⟩
      · obtain ⟨x, rfl⟩ : ∃ x : Nat, z = x := ⟨z.toNat, by omega⟩
        by_cases hm : x < p
        · have hm' : (x : Int) < (p : Int) := by omega
          go_wp2_with fail
          have hPl : num wd (l.take k) < 2 ^ T := by
            have := num_lt (unhide HF)
            rw [List.length_take, Nat.min_eq_left hk, ← unhide HTk] at this
            exact this
          obtain ⟨P, hP⟩ : ∃ P, P = num wd (l.take k) := ⟨_, rfl⟩
          rw [← hP] at hPl hown
          go_loopw [7, 9] (fun va i wr => ∃ j : Nat, j ≤ wd ∧ i = .int .i64 j ∧ va = .int .i64 ((T + j : Nat) : Int) ∧
            wr.ownsRow w3.heap.size 5 1 (.slice (some ⟨w3.heap.size, 0, none⟩) M M) M (nv .u8 (dg 8 M (P + 2 ^ T * (x % 2 ^ j)))) ∧ Below w3.heap.size w3 wr) (fun _ i _ => wd - (intOf i).toNat)
          case atStart => exact ⟨0, by omega, rfl, rfl, by simpa [Nat.mod_one] using hown, hbel⟩
          case round =>
            obtain ⟨j, hj, rfl, rfl, hown', hbel'⟩ := hrel
            have hck' := hc k _ (iv_get l k hlt)
            rw [← hbel'.cell (World.block_lt_of_cell? _ _ hck'), ← unhide HZ] at hck'
            obtain ⟨a, ha⟩ : ∃ a, a = T + j := ⟨_, rfl⟩
            rw [← ha]
            by_cases hjl : j < wd
            · have hjl' : (j : Int) < (wd : Int) := by omega
              have haT : a < TT := by omega
              by_cases hbit : x / 2 ^ j % 2 = 1
              · have hbi : ((x : Int) / 2 ^ j) % 2 = 1 := by exact_mod_cast hbit
                obtain ⟨xj, hxj⟩ : ∃ xj, xj = x / 2 ^ j := ⟨_, rfl⟩
                have exj : (x : Int) / 2 ^ j = (xj : Int) := by rw [hxj]; norm_cast
                rw [exj] at hbi
                obtain ⟨q, hq⟩ : ∃ q, q = a / 8 := ⟨_, rfl⟩
                obtain ⟨r, hr⟩ : ∃ r, r = a % 8 := ⟨_, rfl⟩
                have hqi : (a : Int) / 8 = (q : Int) := by omega
                have hri : (a : Int) % 8 = (r : Int) := by omega
                have hqM : q < M := by have := unhide HM; omega
                have hcq := World.ownsRow.cellAt hown' q (by omega)
                rw [nv_get _ _ _ (by rw [dg_length]; exact hqM)] at hcq
                have hfr := World.ownsRow.frozenAt hown' q
                have hst := fun u => World.ownsRow.stored hown' q u
                obtain ⟨cu, hcu⟩ : ∃ cu, cu = (dg 8 M (P + 2 ^ T * (x % 2 ^ j))).getD q 0 := ⟨_, rfl⟩
                rw [← hcu] at hcq
                have hsum : cu + 2 ^ r < 256 := by
                  have := dg_bit_lt (m := M) (part_lt (x := x) (j := j) hPl) (by rw [← ha, ← hq]; exact hqM)
                  rw [← ha, ← hq, ← hr, ← hcu] at this; exact this
                have hr7 : r ≤ 7 := by omega
                have HA := hide ha
                have HQ := hide hq
                have HR := hide hr
                have HX := hide hxj
                have HC := hide hcu
                have HST := hide hst
                clear ha hq hr hxj hcu hst hc
                go_wp2_with fail
                go_roundw
                case rel =>
                  obtain ⟨s1, s2⟩ := unhide HST (.int .u8 (((cu : Int) + 2 ^ r) % 256))
                  refine ⟨j + 1, by omega, by go_num, by rw [show T + (j + 1) = a + 1 by have := unhide HA; omega]; go_num, ?_, hbel'.grown s2 hbel'.size (by simp)⟩
                  have e : ((cu : Int) + 2 ^ r) % 256 = ((cu + 2 ^ r : Nat) : Int) := by
                    have e2 : ((2 ^ r : Nat) : Int) = (2 : Int) ^ r := by norm_cast
                    rw [← e2]
                    generalize 2 ^ r = rr at *
                    omega
                  have hd := dg_add_bit (m := M) (part_lt (x := x) (j := j) hPl)
                  rw [← unhide HA, ← unhide HQ, ← unhide HR, ← unhide HC, unhide HA, bit_more _ _ _ _ (by rw [← unhide HX]; omega)] at hd
                  rw [← hd, nv_set, ← e]
                  exact s1
                case measure => simp [intOf]; omega
              · have hbi : ¬ ((x : Int) / 2 ^ j) % 2 = 1 := by intro hh; exact hbit (by exact_mod_cast hh)
                obtain ⟨xj, hxj⟩ : ∃ xj, xj = x / 2 ^ j := ⟨_, rfl⟩
                have exj : (x : Int) / 2 ^ j = (xj : Int) := by rw [hxj]; norm_cast
                rw [exj] at hbi
                have hbj : (xj : Int) % 2 = 0 := by omega
                have HX := hide hxj
                have HA := hide ha
                clear ha hxj hc hbi
                go_wp2_with fail
                go_roundw
                case rel =>
                  refine ⟨j + 1, by omega, by go_num, by rw [show T + (j + 1) = a + 1 by have := unhide HA; omega]; go_num, ?_, hbel'⟩
                  rw [← bit_same _ _ _ _ (by rw [← unhide HX]; omega)]
                  exact hown'
                case measure => simp [intOf]; omega
            · have ej : j = wd := by omega
              subst ej
              have HA := hide ha
              clear ha hc
              go_wp2_with fail
              go_roundw
              case rel =>
                refine ⟨k + 1, a, by omega, by go_num, hide (by rw [unhide HA, unhide HTk, Nat.mul_succ]), rfl, hide (take_fits hlt (unhide HZ).symm (by rw [← unhide HP]; exact hm) (unhide HF)), ?_, hbel'⟩
                rw [take_num hlt (unhide HZ).symm, ← hP, ← unhide HTk]
                rw [Nat.mod_eq_of_lt (by rw [← unhide HP]; exact hm)] at hown'
                exact hown'
              case measure => simp [intOf]; omega
        · have hm' : ¬ (x : Int) < (p : Int) := by omega
          go_wp2
          go_ret2
          refine ⟨fun hh => absurd (fits_at hh hlt).2 ?_, fun _ => rfl, hbel⟩
          rw [← unhide HZ, hpi]; omega
    · have e2 : k = l.length := by omega
      subst e2
      go_wp2
      go_ret2
      rw [List.take_length] at hown HF
      exact ⟨fun _ => ⟨_, rfl, by unfold Own; rw [nv_length, dg_length]; exact hown⟩, fun hh => absurd (unhide HF) (by rw [hh]; simp), hbel⟩
end Go.Proofs.Ytcldmjjbiifejaa
