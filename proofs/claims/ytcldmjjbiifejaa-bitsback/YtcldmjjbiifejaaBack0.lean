/- The walk of BitsBack: what is packed is unpacked as it was. -/
import Derived.Test.YtcldmjjbiifejaaPacks0
namespace Go.Proofs.Ytcldmjjbiifejaa
open Go.RowKit

/-- The law's numbers. -/
def kk (l : List Int) (i : Nat) : List Nat := (l.take i).map fun z => ab z % 1048576
theorem kk_length {l : List Int} {i : Nat} (hi : i ≤ l.length) : (kk l i).length = i := by simp [kk]; omega
theorem kk_succ {l : List Int} {i : Nat} (hi : i < l.length) : kk l (i + 1) = kk l i ++ [ab (l.getD i 0) % 1048576] := by
  have e : l.take (i + 1) = l.take i ++ [l.getD i 0] := by
    rw [List.take_add_one, List.getElem?_eq_getElem hi]
    simp [hi]
  unfold kk
  rw [e, List.map_append]
  rfl
theorem back_math {K : List Nat} {w : Nat} (hK : ∀ x ∈ K, x < 2 ^ w) : just (dg 8 ((w * K.length + 7) / 8) (ofd w K)) (w * K.length) = true ∧ dg w K.length (ofd 8 (dg 8 ((w * K.length + 7) / 8) (ofd w K))) = K := by
  have h1 := ofd_lt w K hK
  have h2 : ofd 8 (dg 8 ((w * K.length + 7) / 8) (ofd w K)) = ofd w K := by
    rw [ofd_dg, Nat.mod_eq_of_lt (Nat.lt_of_lt_of_le h1 (Nat.pow_le_pow_right (by decide) (by omega)))]
  unfold just
  rw [h2, dg_length]
  exact ⟨by simp [h1], dg_ofd w K hK⟩
theorem num_cast (w : Nat) (K : List Nat) : num w (K.map fun n : Nat => (n : Int)) = ofd w K := by
  unfold num
  rw [List.map_map]
  congr 1
  simp [Function.comp_def]
theorem fits_cast {w : Nat} {K : List Nat} (hK : ∀ x ∈ K, x < 2 ^ w) : fits (K.map fun n : Nat => (n : Int)) w = true := by
  unfold fits
  rw [List.all_eq_true]
  intro x hx
  obtain ⟨n, hn, rfl⟩ := List.mem_map.1 hx
  have : (n : Int) < 2 ^ w := by exact_mod_cast hK n hn
  simp [this]

set_option maxHeartbeats 800000 in
theorem back_walk (w : World) (v : Value) (l : List Int) (m : Int) (h : Rds w v (iv l)) (hi : Ints l) (hm : -9223372036854775808 ≤ m ∧ m ≤ 9223372036854775807) :
    Calls Try.prog 4 #[v, .int .i64 m] w fun e w' => e = .returned (.bool true) ∧ Below w.heap.size w w' := by
  obtain ⟨ao, nn, cap, rfl⟩ : ∃ ao n cap, v = .slice ao n cap := by obtain ⟨ao, cap, rfl, _⟩ := h; exact ⟨_, _, _, rfl⟩
  have hnn : nn = l.length := by have := h.cells.1; rwa [iv_length] at this
  subst hnn
  obtain ⟨_, h1, h2, h3⟩ := h.cells
  simp only [iv_length] at *
  by_cases hlen : 5000 < l.length
  · have hlen' : (5000 : Int) < (l.length : Int) := by omega
    go_enter Try.func4, Try.ntmps4
    go_wp2_with fail
    refine (awake_any w).mono ?_
    rintro e1 w1 ⟨rfl, hb1⟩
    go_wp2
    go_ret
    exact ⟨by simp, hb1⟩
  · have hlen' : ¬ (5000 : Int) < (l.length : Int) := by omega
    have hl5 : l.length ≤ 5000 := by omega
    obtain ⟨i0, hin, hz0, hz1, hz2⟩ := info_parts Try.info_int
    go_enter Try.func4, Try.ntmps4
    go_wp2_with fail
    refine (awake_any w).mono ?_
    rintro e1 w1 ⟨rfl, hb1⟩
    clear h
    go_wp2_with fail
    go_loopw [6, 7, 8] (fun vm vk i wr => ∃ k M : Nat, k ≤ l.length ∧ i = .int .i64 k ∧ vm = .int .i64 M ∧ M < 1048576 ∧ Hid (∀ x ∈ kk l k, x ≤ M) ∧ Own wr w1.heap.size 3 vk (nv .i64 (kk l k)) ∧ Below w1.heap.size w1 wr) (fun _ _ i _ => l.length - (intOf i).toNat)
    case atStart => exact ⟨0, 0, by omega, rfl, rfl, by omega, hide (by simp [kk]), World.ownsRow_nil _ _ _ _, Below.refl _ _⟩
    case round =>
      obtain ⟨k, M, hk, rfl, rfl, hM, HK, hown, hbel⟩ := hrel
      by_cases hlt : k < l.length
      · have hlt' : (k : Int) < (l.length : Int) := by omega
        obtain ⟨b, off, rfl, hc⟩ := h3 (by omega)
        have hck := hc k _ (iv_get l k hlt)
        have hbw := hb1.trans (below_mono hbel hb1.size)
        rw [← hbw.cell (World.block_lt_of_cell? _ _ hck)] at hck
        have hzb := hi.at k hlt
        have hks := kk_succ hlt
        have hkl := kk_length hk
        obtain ⟨z, hz⟩ : ∃ z, z = l.getD k 0 := ⟨_, rfl⟩
        rw [← hz] at hck hzb hks
        have habs := abs_any wr z hzb
        have hal := ab_le z hzb
        obtain ⟨a, ha⟩ : ∃ a, a = ab z := ⟨_, rfl⟩
        rw [← ha] at habs hal hks
        obtain ⟨x, hx⟩ : ∃ x, x = a % 1048576 := ⟨_, rfl⟩
        rw [← hx] at hks
        have hxi : (a : Int) % 1048576 = (x : Int) := by omega
        have hxl : x < 1048576 := by omega
        have HKS := hide hks
        have HKL := hide hkl
        have hsz := hbel.size
        clear hz ha hx hks hkl hc h3
        by_cases hxM : M < x
        · have hxM' : (M : Int) < (x : Int) := by omega
          go_wp2_with fail
          refine habs.mono ?_
          rintro e1 w2 ⟨rfl, rfl⟩
          go_wp2_with (first
            | (at_builtin; refine wpList_append_own _ rfl _ _ 22 rfl w1.heap.size 3 i0 (.int .i64 0) 1 8 Try.underlying22 hin hz0 hz1 hz2 rfl (by decide) _ _ _ rfl (hown.alloc _) ⟨w2.heap.size, 0, none⟩ 1 1 [.int .i64 (x : Int)] rfl rfl (cell_one_new _ _ _) (by simp [Value.oneCell']) (by have := unhide HKL; simp [maxLen, nv_length, this]; omega) (by have := unhide HKL; simp [nv_length, this]; omega) (by simp; omega) ?_; intro v1 w3 hown1 hgrow1 _)
            | go_in)
          go_roundw
          case rel =>
            refine ⟨k + 1, x, by omega, by go_num, rfl, hxl, hide ?_, ?_, below_grown hbel (by omega) hown hgrow1⟩
            · rw [unhide HKS]; intro y hy
              rcases List.mem_append.1 hy with hy | hy
              · have := unhide HK y hy; omega
              · simp at hy; omega
            · rw [unhide HKS]; exact one_more (z := (x : Int)) rfl (by simpa [nv_length] using hown1)
          case measure => simp [intOf]; omega
        · have hxM' : ¬ (M : Int) < (x : Int) := by omega
          go_wp2_with fail
          refine habs.mono ?_
          rintro e1 w2 ⟨rfl, rfl⟩
          go_wp2_with (first
            | (at_builtin; refine wpList_append_own _ rfl _ _ 22 rfl w1.heap.size 3 i0 (.int .i64 0) 1 8 Try.underlying22 hin hz0 hz1 hz2 rfl (by decide) _ _ _ rfl (hown.alloc _) ⟨w2.heap.size, 0, none⟩ 1 1 [.int .i64 (x : Int)] rfl rfl (cell_one_new _ _ _) (by simp [Value.oneCell']) (by have := unhide HKL; simp [maxLen, nv_length, this]; omega) (by have := unhide HKL; simp [nv_length, this]; omega) (by simp; omega) ?_; intro v1 w3 hown1 hgrow1 _)
            | go_in)
          go_roundw
          case rel =>
            refine ⟨k + 1, M, by omega, by go_num, rfl, hM, hide ?_, ?_, below_grown hbel (by omega) hown hgrow1⟩
            · rw [unhide HKS]; intro y hy
              rcases List.mem_append.1 hy with hy | hy
              · exact unhide HK y hy
              · simp at hy; omega
            · rw [unhide HKS]; exact one_more (z := (x : Int)) rfl (by simpa [nv_length] using hown1)
          case measure => simp [intOf]; omega
      · have ek : k = l.length := by omega
        subst ek
        have hKl := kk_length (Nat.le_refl l.length)
        obtain ⟨K, hKe⟩ : ∃ K, K = kk l l.length := ⟨_, rfl⟩
        rw [← hKe] at hown HK hKl
        have hal := ab_le m hm
        have habs := fun w' => abs_any w' m hm
        obtain ⟨a, ha⟩ : ∃ a, a = ab m := ⟨_, rfl⟩
        rw [← ha] at hal
        simp only [← ha] at habs
        obtain ⟨a5, ha5⟩ : ∃ a5, a5 = a % 5 := ⟨_, rfl⟩
        have ha5i : (a : Int) % 5 = (a5 : Int) := by omega
        have ha5l : a5 < 5 := by omega
        have hwl := wdt_le ((M : Int) + 1) 20 (by omega) (by omega)
        have hwg := fun x (hx : x ∈ K) => wdt_ge ((M : Int) + 1) x (by omega) (by have := unhide HK x hx; omega)
        have hwidth := fun w' => width_any w' ((M : Int) + 1) (by omega)
        obtain ⟨wd0, hwd0⟩ : ∃ wd0, wd0 = wdt ((M : Int) + 1) := ⟨_, rfl⟩
        rw [← hwd0] at hwl
        simp only [← hwd0] at hwg hwidth
        obtain ⟨W, hW⟩ : ∃ W, W = wd0 + a5 := ⟨_, rfl⟩
        have hWi : (wd0 : Int) + (a5 : Int) = (W : Int) := by omega
        have hWl : W ≤ 24 := by omega
        have hKW : ∀ x ∈ K, x < 2 ^ W := fun x hx => Nat.lt_of_lt_of_le (hwg x hx) (Nat.pow_le_pow_right (by decide) (by omega))
        obtain ⟨hj, hd⟩ := back_math hKW
        have hr := hown.rds
        have hr' := hr
        rw [← iv_nat] at hr
        have hints : Ints (K.map fun n : Nat => (n : Int)) := by
          intro y hy
          obtain ⟨n, hn, rfl⟩ := List.mem_map.1 hy
          have := unhide HK n hn
          omega
        have hpk := fun w' v' hh => pack_any w' v' (K.map fun n : Nat => (n : Int)) W hh (by omega) hints (by simp; omega) (fits_cast hKW)
        simp only [num_cast, List.length_map] at hpk
        obtain ⟨bs, hbs⟩ : ∃ bs, bs = dg 8 ((W * K.length + 7) / 8) (ofd W K) := ⟨_, rfl⟩
        have hbsl : bs.length = (W * K.length + 7) / 8 := by rw [hbs, dg_length]
        have hbb : Bytes bs := by rw [hbs]; exact dg_lt _ _ _
        rw [← hbs] at hj hd
        simp only [← hbs] at hpk
        have hun := fun w' v' hh => unpack_any w' v' bs W K.length hh hbb (by omega) (by omega)
        rw [hj, hd] at hun
        rw [hKl] at hun hbsl
        have hbw := hb1.trans (below_mono hbel hb1.size)
        have hprod : W * l.length ≤ 120000 := by
          have := Nat.mul_le_mul hWl hl5
          omega
        obtain ⟨TT, hTT⟩ : ∃ TT, TT = W * l.length := ⟨_, rfl⟩
        have eT : (W : Int) * (l.length : Int) = (TT : Int) := by rw [hTT]; norm_cast
        rw [← hTT] at hprod hbsl
        obtain ⟨L8, hL8⟩ : ∃ L8, L8 = (TT + 7) / 8 := ⟨_, rfl⟩
        have hL8i : ((TT : Int) + 7) / 8 = (L8 : Int) := by omega
        rw [← hL8] at hbsl
        obtain ⟨ak, ck, hshape⟩ : ∃ a c, u7 = .slice a l.length c := by
          obtain ⟨a, c, e, _⟩ := hr'
          rw [nv_length, hKl] at e
          exact ⟨a, c, e⟩
        subst hshape
        clear ha ha5 hwd0 hW hTT hL8 hwg hj hd hbs hints hKW hlt h3 hKe
        go_wp2_with fail
        refine (hwidth wr).mono ?_
        rintro e1 w2 ⟨rfl, rfl⟩
        go_wp2_with fail
        refine (habs w2).mono ?_
        rintro e1 w3 ⟨rfl, rfl⟩
        go_wp2_with fail
        refine (hpk w3 _ hr).mono ?_
        rintro e1 w4 ⟨vb, rfl, hob, hb4⟩
        obtain ⟨ab', cb, hshape⟩ : ∃ a c, vb = .slice a L8 c := by
          obtain ⟨a, c, e, _⟩ := hob.rds
          rw [nv_length, hbsl] at e
          exact ⟨a, c, e⟩
        subst hshape
        have hr4 := hr'.below hb4
        rw [← iv_nat] at hr4
        go_wp2_with fail
        refine (hun w4 _ hob.rds).mono ?_
        rintro e1 w5 ⟨hq, _, hb5⟩
        obtain ⟨vo, rfl, hoo⟩ := hq trivial
        have hr5 := hr4.below hb5
        have hro := hoo.rds
        rw [← iv_nat] at hro
        have hsame := same_any w5 vo _ _ hro hr5 (by simp; omega)
        have hbw5 : Below w.heap.size w w5 := (hbw.trans (below_mono hb4 hbw.size)).trans (below_mono hb5 (Nat.le_trans hbw.size hb4.size))
        clear hq hoo hob hr4 hr5 hro hr hr' hown
        go_wp2_with fail
        refine hsame.mono ?_
        rintro e1 w6 ⟨rfl, d, rfl⟩
        go_wp2
        go_ret
        exact ⟨by simp, below_drewN hbw5 d⟩
end Go.Proofs.Ytcldmjjbiifejaa
