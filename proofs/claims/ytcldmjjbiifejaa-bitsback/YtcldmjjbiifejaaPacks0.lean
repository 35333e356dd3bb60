/- The walk of BitsPacks: it is true for all numbers, bytes and widths. -/
import Derived.Test.YtcldmjjbiifejaaAwake
import Derived.Test.YtcldmjjbiifejaaRefUnp
namespace Go.Proofs.Ytcldmjjbiifejaa
open Go.RowKit

def packOk (l : List Int) (z : Int) : Bool := decide (0 ≤ z) && decide (z ≤ 32) && fits l z.toNat
/-- What packing answers: the bytes, the error. -/
def packR (l : List Int) (z : Int) : List Nat := if packOk l z = true then dg 8 ((z.toNat * l.length + 7) / 8) (num z.toNat l) else []
def packC (l : List Int) (z : Int) : Int := if packOk l z = true then 0 else 1
theorem packR_lt (l : List Int) (z : Int) : ∀ x ∈ packR l z, x < 2 ^ 8 := by
  unfold packR
  split
  · exact dg_lt _ _ _
  · intro x hx; simp at hx

theorem refpack_arg (w : World) (v : Value) (z : Int) (hz : -9223372036854775808 ≤ z ∧ z ≤ 9223372036854775807) (hb : ¬ (0 ≤ z ∧ z ≤ 32)) :
    Calls Try.prog 8 #[v, .int .i64 z] w fun e w' => e = .returned (.tuple #[.slice none 0 0, .int .i64 1]) ∧ w' = w := by
  by_cases hw0 : z < 0
  · go_enter Try.func8, Try.ntmps8
    go_wp2
    go_ret2
    exact ⟨rfl, rfl⟩
  · have hw1 : 32 < z := by omega
    go_enter Try.func8, Try.ntmps8
    go_wp2
    go_ret2
    exact ⟨rfl, rfl⟩

theorem pack_spec (w : World) (v : Value) (l : List Int) (z : Int) (h : Rds w v (iv l)) (hz : -9223372036854775808 ≤ z ∧ z ≤ 9223372036854775807) (hi : Ints l) (hl : l.length ≤ 5000) :
    Calls Try.prog 7 #[v, .int .i64 z] w fun e w' => ∃ v', e = .returned (.tuple #[v', .int .i64 (packC l z)]) ∧ Rds w' v' (nv .u8 (packR l z)) ∧ Below w.heap.size w w' := by
  cases hok : packOk l z
  · unfold packR packC
    rw [hok]
    refine (pack_bad w v l z h hz hi hl ?_).mono ?_
    · unfold packOk at hok
      simp at hok
      by_cases hh : 0 ≤ z ∧ z ≤ 32
      · exact .inr (by simpa using hok hh.1 hh.2)
      · exact .inl hh
    · rintro e w' ⟨rfl, rfl⟩
      exact ⟨_, rfl, Rds.nil _, Below.refl _ _⟩
  · unfold packR packC
    rw [hok]
    unfold packOk at hok
    simp at hok
    obtain ⟨wd, rfl⟩ : ∃ wd : Nat, z = wd := ⟨z.toNat, by omega⟩
    refine (pack_any w v l wd h (by omega) hi hl (by simpa using hok.2)).mono ?_
    rintro e w' ⟨v', rfl, ho, hb⟩
    exact ⟨_, rfl, ho.rds, hb⟩
theorem refpack_spec (w : World) (v : Value) (l : List Int) (z : Int) (h : Rds w v (iv l)) (hz : -9223372036854775808 ≤ z ∧ z ≤ 9223372036854775807) (hi : Ints l) (hl : l.length ≤ 5000) :
    Calls Try.prog 8 #[v, .int .i64 z] w fun e w' => ∃ v', e = .returned (.tuple #[v', .int .i64 (packC l z)]) ∧ Rds w' v' (nv .u8 (packR l z)) ∧ Below w.heap.size w w' := by
  by_cases hh : 0 ≤ z ∧ z ≤ 32
  · obtain ⟨wd, rfl⟩ : ∃ wd : Nat, z = wd := ⟨z.toNat, by omega⟩
    refine (refpack_any w v l wd h (by omega) hi hl).mono ?_
    rintro e w' ⟨h1, h2, hb⟩
    unfold packR packC packOk
    simp only [Int.toNat_natCast]
    by_cases hf : fits l wd = true
    · obtain ⟨v', rfl, ho⟩ := h1 hf
      have e : (decide (0 ≤ (wd : Int)) && decide ((wd : Int) ≤ 32) && fits l wd) = true := by rw [hf]; simp; omega
      rw [if_pos e, if_pos e]
      exact ⟨v', rfl, ho.rds, hb⟩
    · rw [Bool.not_eq_true] at hf
      obtain rfl := h2 hf
      have e : ¬ (decide (0 ≤ (wd : Int)) && decide ((wd : Int) ≤ 32) && fits l wd) = true := by rw [hf]; simp
      rw [if_neg e, if_neg e]
      exact ⟨_, rfl, Rds.nil _, hb⟩
  · refine (refpack_arg w v z hz hh).mono ?_
    rintro e w' ⟨rfl, rfl⟩
    unfold packR packC packOk
    have e : (decide (0 ≤ z) && decide (z ≤ 32) && fits l z.toNat) = false := by
      simp; intro h1 h2; exact absurd ⟨h1, h2⟩ hh
    rw [e]
    exact ⟨_, rfl, Rds.nil _, Below.refl _ _⟩

/-- What unpacking answers: the numbers, the error. -/
def unR (bs : List Nat) (z m : Int) : List Nat := if 0 ≤ z ∧ z ≤ 32 ∧ 0 ≤ m ∧ m ≤ 5000 ∧ just bs (z.toNat * m.toNat) = true then dg z.toNat m.toNat (ofd 8 bs) else []
def unC (bs : List Nat) (z m : Int) : Int := if 0 ≤ z ∧ z ≤ 32 ∧ 0 ≤ m ∧ m ≤ 5000 then (if just bs (z.toNat * m.toNat) = true then 0 else 12) else 1
theorem unR_le (bs : List Nat) (z m : Int) : (unR bs z m).length ≤ 5000 := by
  unfold unR
  split
  · rw [dg_length]; omega
  · simp
theorem un_lift {w : World} {P : Nat} {args : Array Value} {bs : List Nat} {wd many : Nat} (hw : wd ≤ 32) (hm : many ≤ 5000)
    (h : Calls Try.prog P args w fun e w' => (just bs (wd * many) = true → ∃ v', e = .returned (.tuple #[v', .int .i64 0]) ∧
      Own w' w.heap.size 3 v' (nv .i64 (dg wd many (ofd 8 bs)))) ∧ (just bs (wd * many) = false → e = .returned (.tuple #[.slice none 0 0, .int .i64 12])) ∧ Below w.heap.size w w') :
    Calls Try.prog P args w fun e w' => ∃ v', e = .returned (.tuple #[v', .int .i64 (unC bs wd many)]) ∧ Rds w' v' (nv .i64 (unR bs wd many)) ∧ Below w.heap.size w w' := by
  refine h.mono ?_
  rintro e w' ⟨h1, h2, hb⟩
  have c4 : (0 : Int) ≤ (wd : Int) ∧ (wd : Int) ≤ 32 ∧ (0 : Int) ≤ (many : Int) ∧ (many : Int) ≤ 5000 := by omega
  unfold unC unR
  rw [if_pos c4]
  simp only [Int.toNat_natCast]
  by_cases hj : just bs (wd * many) = true
  · obtain ⟨v', rfl, ho⟩ := h1 hj
    rw [if_pos hj, if_pos ⟨c4.1, c4.2.1, c4.2.2.1, c4.2.2.2, hj⟩]
    exact ⟨_, rfl, ho.rds, hb⟩
  · have hj' := hj
    rw [Bool.not_eq_true] at hj'
    obtain rfl := h2 hj'
    rw [if_neg hj, if_neg (fun hh => hj hh.2.2.2.2)]
    exact ⟨_, rfl, Rds.nil _, hb⟩
theorem un_bad {w : World} {P : Nat} {args : Array Value} {bs : List Nat} {z m : Int} (hb : ¬ (0 ≤ z ∧ z ≤ 32) ∨ ¬ (0 ≤ m ∧ m ≤ 1048576))
    (h : Calls Try.prog P args w fun e w' => e = .returned (.tuple #[.slice none 0 0, .int .i64 1]) ∧ w' = w) :
    Calls Try.prog P args w fun e w' => ∃ v', e = .returned (.tuple #[v', .int .i64 (unC bs z m)]) ∧ Rds w' v' (nv .i64 (unR bs z m)) ∧ Below w.heap.size w w' := by
  refine h.mono ?_
  rintro e w' ⟨rfl, rfl⟩
  unfold unC unR
  rw [if_neg (by omega), if_neg (by omega)]
  exact ⟨_, rfl, Rds.nil _, Below.refl _ _⟩
theorem unpack_spec (w : World) (v : Value) (bs : List Nat) (z m : Int) (h : Rds w v (nv .u8 bs)) (hb : Bytes bs) (hz : -9223372036854775808 ≤ z ∧ z ≤ 9223372036854775807) (hm : -9223372036854775808 ≤ m ∧ m ≤ 9223372036854775807)
    (h5 : m ≤ 5000 ∨ 1048576 < m) :
    Calls Try.prog 11 #[v, .int .i64 z, .int .i64 m] w fun e w' => ∃ v', e = .returned (.tuple #[v', .int .i64 (unC bs z m)]) ∧ Rds w' v' (nv .i64 (unR bs z m)) ∧ Below w.heap.size w w' := by
  by_cases hh : (0 ≤ z ∧ z ≤ 32) ∧ (0 ≤ m ∧ m ≤ 1048576)
  · obtain ⟨wd, rfl⟩ : ∃ wd : Nat, z = wd := ⟨z.toNat, by omega⟩
    obtain ⟨many, rfl⟩ : ∃ many : Nat, m = many := ⟨m.toNat, by omega⟩
    exact un_lift (by omega) (by omega) (unpack_any w v bs wd many h hb (by omega) (by omega))
  · have : ¬ (0 ≤ z ∧ z ≤ 32) ∨ ¬ (0 ≤ m ∧ m ≤ 1048576) := by omega
    exact un_bad this (unpack_arg w v z m hz hm this)
theorem refunpack_spec (w : World) (v : Value) (bs : List Nat) (z m : Int) (h : Rds w v (nv .u8 bs)) (hb : Bytes bs) (hz : -9223372036854775808 ≤ z ∧ z ≤ 9223372036854775807) (hm : -9223372036854775808 ≤ m ∧ m ≤ 9223372036854775807)
    (h5 : m ≤ 5000 ∨ 1048576 < m) :
    Calls Try.prog 12 #[v, .int .i64 z, .int .i64 m] w fun e w' => ∃ v', e = .returned (.tuple #[v', .int .i64 (unC bs z m)]) ∧ Rds w' v' (nv .i64 (unR bs z m)) ∧ Below w.heap.size w w' := by
  by_cases hh : (0 ≤ z ∧ z ≤ 32) ∧ (0 ≤ m ∧ m ≤ 1048576)
  · obtain ⟨wd, rfl⟩ : ∃ wd : Nat, z = wd := ⟨z.toNat, by omega⟩
    obtain ⟨many, rfl⟩ : ∃ many : Nat, m = many := ⟨m.toNat, by omega⟩
    exact un_lift (by omega) (by omega) (refunpack_any w v bs wd many h hb (by omega) (by omega))
  · have : ¬ (0 ≤ z ∧ z ≤ 32) ∨ ¬ (0 ≤ m ∧ m ≤ 1048576) := by omega
    exact un_bad this (refunpack_arg w v z m hz hm this)

set_option maxHeartbeats 800000 in
theorem packs_walk (w : World) (v vb : Value) (l : List Int) (bs : List Nat) (z m n : Int) (h : Rds w v (iv l)) (hv : Rds w vb (nv .u8 bs)) (hi : Ints l) (hb : Bytes bs)
    (hz : -9223372036854775808 ≤ z ∧ z ≤ 9223372036854775807) (hm : -9223372036854775808 ≤ m ∧ m ≤ 9223372036854775807) (hn : -9223372036854775808 ≤ n ∧ n ≤ 9223372036854775807) :
    Calls Try.prog 3 #[v, .int .i64 z, vb, .int .i64 m, .int .i64 n] w fun e w' => e = .returned (.bool true) ∧ Below w.heap.size w w' := by
  obtain ⟨ao, nn, cap, rfl⟩ : ∃ ao n cap, v = .slice ao n cap := by obtain ⟨ao, cap, rfl, _⟩ := h; exact ⟨_, _, _, rfl⟩
  have hnn : nn = l.length := by have := h.cells.1; rwa [iv_length] at this
  subst hnn
  by_cases hlen : 5000 < l.length
  · have hlen' : (5000 : Int) < (l.length : Int) := by omega
    go_enter Try.func3, Try.ntmps3
    go_wp2_with fail
    refine (awake_any w).mono ?_
    rintro e1 w1 ⟨rfl, hb1⟩
    go_wp2
    go_ret
    exact ⟨by simp, hb1⟩
  · have hlen' : ¬ (5000 : Int) < (l.length : Int) := by omega
    obtain ⟨m', hm', hm5, hmr⟩ : ∃ m' : Int, (m' = if 5000 < m ∧ m ≤ 1048576 then m % 5000 else m) ∧ (m' ≤ 5000 ∨ 1048576 < m') ∧ (-9223372036854775808 ≤ m' ∧ m' ≤ 9223372036854775807) := by
      refine ⟨_, rfl, ?_, ?_⟩ <;> split <;> omega
    have hk := fun w v h => pack_spec w v l z h hz hi (by omega)
    have hrk := fun w v h => refpack_spec w v l z h hz hi (by omega)
    have hu := fun w v h => unpack_spec w v bs z m' h hb hz hmr hm5
    have hru := fun w v h => refunpack_spec w v bs z m' h hb hz hmr hm5
    have hRl := packR_lt l z
    have hul := unR_le bs z m'
    obtain ⟨R, hR⟩ : ∃ R, R = packR l z := ⟨_, rfl⟩
    obtain ⟨C, hC⟩ : ∃ C, C = packC l z := ⟨_, rfl⟩
    obtain ⟨U, hU⟩ : ∃ U, U = unR bs z m' := ⟨_, rfl⟩
    obtain ⟨D, hD⟩ : ∃ D, D = unC bs z m' := ⟨_, rfl⟩
    simp only [← hR, ← hC, ← hU, ← hD] at hk hrk hu hru hRl hul
    clear hR hC hU hD
    have HH := hide h
    have HV := hide hv
    clear h hv
    go_enter Try.func3, Try.ntmps3
    go_wp2_with fail
    refine (awake_any w).mono ?_
    rintro e1 w1 ⟨rfl, hb1⟩
    go_wp2_with fail
    refine (hk w1 _ ((unhide HH).below hb1)).mono ?_
    rintro e1 w2 ⟨x, rfl, hx, hb2⟩
    have hbw2 := hb1.trans (below_mono hb2 hb1.size)
    go_wp2_with fail
    refine (hrk w2 _ ((unhide HH).below hbw2)).mono ?_
    rintro e1 w3 ⟨y, rfl, hy, hb3⟩
    have hbw3 := hbw2.trans (below_mono hb3 hbw2.size)
    have cx := conv_string w3 x R hRl (hx.below hb3)
    have cy := conv_string w3 y R hRl hy
    obtain ⟨S, hS⟩ : ∃ S : ByteArray, S = ⟨(byt R).toArray⟩ := ⟨_, rfl⟩
    rw [← hS] at cx cy
    clear hS hx hy hb2 hb3 hbw2 hb1
    go_wp2_with fail
    refine (width_any w3 n hn).mono ?_
    rintro e1 w4 ⟨rfl, rfl⟩
    obtain ⟨wn', hwn'⟩ : ∃ k : Int, k = ((wdt n : Nat) : Int) := ⟨_, rfl⟩
    have hrw := refwidth_any w4 n hn
    rw [← hwn'] at hrw ⊢
    clear hwn'
    go_wp2_with fail
    refine hrw.mono ?_
    rintro e1 w5 ⟨rfl, rfl⟩
    have hVr := (unhide HV).below hbw3
    clear cx cy hrw
    by_cases hbig : 5000 < m ∧ m ≤ 1048576
    · rw [if_pos hbig] at hm'
      have hbig1 := hbig.1
      have hbig2 := hbig.2
      have hmm : m % 5000 = m' := hm'.symm
      clear hm' hbig
      go_wp2_with fail
      refine (hu w5 _ hVr).mono ?_
      rintro e1 w6 ⟨p, rfl, hp, hb6⟩
      go_wp2_with fail
      refine (hru w6 _ (hVr.below hb6)).mono ?_
      rintro e1 w7 ⟨q, rfl, hq, hb7⟩
      rw [← iv_nat] at hp hq
      have hsame := same_any w7 p q _ (hp.below hb7) hq (by simp; omega)
      have hb57 := hb6.trans (below_mono hb7 hb6.size)
      clear hp hq hb6 hb7
      go_wp2_with fail
      refine hsame.mono ?_
      rintro e1 w8 ⟨rfl, d, rfl⟩
      go_wp2
      go_ret
      exact ⟨by simp, below_drewN (hbw3.trans (below_mono hb57 hbw3.size)) d⟩
    · rw [if_neg hbig] at hm'
      subst hm'
      by_cases hbig1 : 5000 < m'
      · have hbig2 : ¬ m' ≤ 1048576 := by omega
        clear hbig
        go_wp2_with fail
        refine (hu w5 _ hVr).mono ?_
        rintro e1 w6 ⟨p, rfl, hp, hb6⟩
        go_wp2_with fail
        refine (hru w6 _ (hVr.below hb6)).mono ?_
        rintro e1 w7 ⟨q, rfl, hq, hb7⟩
        rw [← iv_nat] at hp hq
        have hsame := same_any w7 p q _ (hp.below hb7) hq (by simp; omega)
        have hb57 := hb6.trans (below_mono hb7 hb6.size)
        clear hp hq hb6 hb7
        go_wp2_with fail
        refine hsame.mono ?_
        rintro e1 w8 ⟨rfl, d, rfl⟩
        go_wp2
        go_ret
        exact ⟨by simp, below_drewN (hbw3.trans (below_mono hb57 hbw3.size)) d⟩
      · clear hbig
        go_wp2_with fail
        refine (hu w5 _ hVr).mono ?_
        rintro e1 w6 ⟨p, rfl, hp, hb6⟩
        go_wp2_with fail
        refine (hru w6 _ (hVr.below hb6)).mono ?_
        rintro e1 w7 ⟨q, rfl, hq, hb7⟩
        rw [← iv_nat] at hp hq
        have hsame := same_any w7 p q _ (hp.below hb7) hq (by simp; omega)
        have hb57 := hb6.trans (below_mono hb7 hb6.size)
        clear hp hq hb6 hb7
        go_wp2_with fail
        refine hsame.mono ?_
        rintro e1 w8 ⟨rfl, d, rfl⟩
        go_wp2
        go_ret
        exact ⟨by simp, below_drewN (hbw3.trans (below_mono hb57 hbw3.size)) d⟩
end Go.Proofs.Ytcldmjjbiifejaa
