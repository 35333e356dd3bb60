/- The walk of FactBags. -/
import Derived.Test.YtgdeongeonhlpaaRIs
import Derived.Test.YtgdeongeonhlpaaRIn
import Derived.Test.YtgdeongeonhlpaaAwake
import Derived.Test.YtgdeongeonhlpaaLaws0
namespace Go.Proofs.Ytgdeongeonhlpaa
open Go.RowKit Go.Sort

theorem own_one {a b : List En} (ha : ∀ e ∈ a, e.n < two64) (hb : ∀ e ∈ b, e.n < two64) : OneBag (rows a) (rows b) ↔ rows (ownL a) = rows (ownL b) := by
  have h1 := ownL_bag a ha
  have h2 := ownL_bag b hb
  constructor
  · intro h; exact h1.uniq h2 h
  · intro h f
    rw [← h1.cnt f, ← h2.cnt f, h]
theorem RdsM.few {w : World} {v : Value} {l : List En} (h : RdsM w v l) : ∀ e ∈ l, e.n < two64 := fun e he => (h.ok e he).n
theorem rows_app (a b : List En) : rows (a ++ b) = rows a ++ rows b := by simp [rows]

set_option maxRecDepth 100000 in
set_option maxHeartbeats 8000000 in
theorem bags_walk (w : World) (vl va vb : Value) (l : List Fc) (a b : List En) (hl : RdsF w vl l) (ha : RdsM w va a) (hb : RdsM w vb b) :
    Calls Try.prog 4 #[vl, va, vb] w fun e w' => e = .returned (.bool true) ∧ Below w.heap.size w w' := by
  have hza : ∀ m : Nat, m ≤ 2000 → m ≤ maxLen := fun m hm => by unfold maxLen; omega
  have hzb : ∀ m : Nat, m ≤ 2000 → (m + m / 4 + 192) * 64 ≤ 281474976710656 := fun m hm => by omega
  have HZA : Aside (∀ m : Nat, m ≤ 2000 → m ≤ maxLen) := hza
  have HZB : Aside (∀ m : Nat, m ≤ 2000 → (m + m / 4 + 192) * 64 ≤ 281474976710656) := hzb
  clear hza hzb
  obtain ⟨i0, hi0, hy0, hy1, hy2⟩ := info_parts Try.info_many
  obtain ⟨al, nl, cl, rfl⟩ := hl.sl
  obtain ⟨aa, na, ca, rfl⟩ := ha.sl
  obtain ⟨ab, nb, cb, rfl⟩ := hb.sl
  obtain ⟨el, l1, l2⟩ := hl.len
  obtain ⟨ea, a1, a2⟩ := ha.len
  obtain ⟨eb, b1, b2⟩ := hb.len
  have kA := awake_any w
  have HL : Hid (RdsF w (.slice al nl cl) l) := hl
  have HA : Hid (RdsM w (.slice aa na ca) a) := ha
  have HB : Hid (RdsM w (.slice ab nb cb) b) := hb
  have HN : Hid (nl = l.length ∧ na = a.length ∧ nb = b.length) := ⟨el, ea, eb⟩
  clear hl ha hb el ea eb l1 l2 a1 a2 b1 b2
  go_enter Try.func4, Try.ntmps4
  go_wp2_with fail
  refine kA.mono ?_
  rintro e w1 ⟨rfl, d1⟩
  have HD1 : Hid (Below w.heap.size w w1) := d1
  clear kA d1
  by_cases g1 : (300 : Int) < (nl : Int)
  · go_wp2_with fail
    go_ret
    exact ⟨rfl, HD1.out⟩
  · by_cases g2 : (300 : Int) < (na : Int)
    · go_wp2_with fail
      go_ret
      exact ⟨rfl, HD1.out⟩
    · by_cases g3 : (300 : Int) < (nb : Int)
      · go_wp2_with fail
        go_ret
        exact ⟨rfl, HD1.out⟩
      · have ll : l.length ≤ 300 := by have := HN.out; omega
        have la : a.length ≤ 300 := by have := HN.out; omega
        have lb : b.length ≤ 300 := by have := HN.out; omega
        have HLE : Hid (l.length ≤ 300 ∧ a.length ≤ 300 ∧ b.length ≤ 300) := ⟨ll, la, lb⟩
        have HPA : Hid (RdsK 4 w1 (.slice aa na ca) na (ev a)) := by have := (RdsM.below HA.out HD1.out).r; rwa [← HN.out.2.1] at this
        have HPA1 : Aside (∀ u ∈ ev a, u.oneCell' = true) := HA.out.one_ev
        have HPB1 : Aside (∀ u ∈ ev b, u.oneCell' = true) := HB.out.one_ev
        have hna : na ≤ 300 := by omega
        have hnb : nb ≤ 300 := by omega
        have hz1 : 0 + na ≤ maxLen := HZA.out _ (by omega)
        have hz2 : ((0 + na) + (0 + na) / 4 + 192) * 64 ≤ 281474976710656 := HZB.out _ (by omega)
        clear ll la lb
        go_upto_region 8 with (first
          | (at_builtin; refine wpList_appK rfl _ _ 36 rfl w1.heap.size 46 i0 (.agg #[.int .i64 0, .slice none 0 0, .slice none 0 0, .int .u64 0]) 4 64 Try.underlying36 hi0 hy0 hy1 hy2 rfl (by decide) _ _ _ rfl (World.ownsRow_nil w1 w1.heap.size 46 4) _ _ _ rfl HPA.out HPA1.out hz1 hz2 (Nat.le_refl _) ?_; intro v2 w2 hown2 hgrow2 hnil2))
        rw [Nat.zero_add, List.nil_append] at hown2
        have b2 : Below w1.heap.size w1 w2 := (Below.refl _ _).grown hgrow2 (Nat.le_refl _) (fun j hj => by cases hj)
        have HD2 : Hid (Below w.heap.size w w2) := HD1.out.trans (b2.mono HD1.out.size)
        have HPB : Hid (RdsK 4 w2 (.slice ab nb cb) nb (ev b)) := by have := (RdsM.below HB.out HD2.out).r; rwa [← HN.out.2.2] at this
        obtain ⟨p2, n2, c2, rfl⟩ := own_sl hown2
        have HO2 : Hid (w2.ownsRow w1.heap.size 46 4 (.slice p2 n2 c2) na (ev a)) := hown2
        have HS2 : Hid (Below w1.heap.size w1 w2) := b2
        have hs2 : w1.heap.size ≤ w2.heap.size := b2.size
        have hz3 : na + nb ≤ maxLen := HZA.out _ (Nat.le_trans (Nat.add_le_add hna hnb) (by decide))
        have hz4 : ((na + nb) + (na + nb) / 4 + 192) * 64 ≤ 281474976710656 := HZB.out _ (Nat.le_trans (Nat.add_le_add hna hnb) (by decide))
        clear hown2 hgrow2 hnil2 b2 hz1 hz2 HPA HPA1
        go_upto_region 9 with (first
          | (at_builtin; refine wpList_appK rfl _ _ 36 rfl w1.heap.size 46 i0 (.agg #[.int .i64 0, .slice none 0 0, .slice none 0 0, .int .u64 0]) 4 64 Try.underlying36 hi0 hy0 hy1 hy2 rfl (by decide) _ _ _ rfl HO2.out _ _ _ rfl HPB.out HPB1.out hz3 hz4 hs2 ?_; intro v3 w3 hown3 hgrow3 hnil3))
        have b3 : Below w1.heap.size w1 w3 := HS2.out.grown hgrow3 hs2 (fun j hj => (World.ownsRow.lt HO2.out j hj).1)
        have D3 : Below w.heap.size w w3 := HD1.out.trans (b3.mono HD1.out.size)
        have m3 : RdsM w3 v3 (a ++ b) := by
          refine ⟨?_, fun e he => ?_⟩
          · have h1 := RdsK.of_own hown3
            rw [List.length_append, ← HN.out.2.1, ← HN.out.2.2, ev_app]
            exact h1
          · rcases List.mem_append.1 he with he | he
            · exact (HA.out.ok e he).below D3
            · exact (HB.out.ok e he).below D3
        obtain ⟨p3, n3, c3, rfl⟩ := m3.sl
        have HM3 : Hid (RdsM w3 (.slice p3 n3 c3) (a ++ b)) := m3
        have HD3 : Hid (Below w.heap.size w w3) := D3
        clear hown3 hgrow3 hnil3 b3 D3 m3 hz3 hz4 HPB HPB1 HO2 HS2 HD2 hs2
        -- one
        have k4 := bag_any w3 _ l (RdsF.below HL.out HD3.out) (by have := HLE.out; omega)
        go_wp2_with fail
        refine k4.mono ?_
        rintro e w4 ⟨v4, rfl, l4, o4, -, i4, b4⟩
        have D4 : Below w.heap.size w w4 := HD3.out.trans (b4.mono HD3.out.size)
        have M4 := HM3.out.below b4
        have k5 := refbag_any w4 _ l (RdsF.below HL.out D4) (by have := HLE.out; omega)
        have m4 := o4.ok
        obtain ⟨p4, n4, c4, rfl⟩ := m4.sl
        clear k4
        go_wp2_with fail
        refine k5.mono ?_
        rintro e w5 ⟨v5, rfl, m5, b5⟩
        have k6 := is_any w5 _ _ _ _ (m4.below b5) m5
        rw [decide_eq_true (i4.uniq (bagL_bag l (by have := HLE.out; omega)) fun _ => rfl)] at k6
        obtain ⟨p5, n5, c5, rfl⟩ := m5.sl
        have D5 : Below w.heap.size w w5 := D4.trans (b5.mono D4.size)
        have M5 := M4.below b5
        clear k5 D4 M4 o4 i4 m4 m5
        go_wp2_with fail
        refine k6.mono ?_
        rintro e w6 ⟨rfl, b6⟩
        have D6 : Below w.heap.size w w6 := D5.trans (b6.mono D5.size)
        have M6 := M5.below b6
        clear k6 D5 M5 b4 b5 b6 HM3 HD3
        -- two
        have k7 := join_any w6 _ _ a b (RdsM.below HA.out D6) (RdsM.below HB.out D6) (by have := HLE.out; omega)
        go_wp2_with fail
        refine k7.mono ?_
        rintro e w7 ⟨v7, rfl, l7, o7, -, i7, b7⟩
        have D7 : Below w.heap.size w w7 := D6.trans (b7.mono D6.size)
        have M7 := M6.below b7
        have k8 := refown_any w7 _ (a ++ b) M7 (by have := HLE.out; rw [List.length_append]; omega)
        have m7 := o7.ok
        obtain ⟨p7, n7, c7, rfl⟩ := m7.sl
        clear k7 D6 M6
        go_wp2_with fail
        refine k8.mono ?_
        rintro e w8 ⟨v8, rfl, m8, b8⟩
        have k9 := is_any w8 _ _ _ _ (m7.below b8) m8
        have ib := ownL_bag (a ++ b) M7.few
        rw [rows_app] at ib
        rw [decide_eq_true (i7.uniq ib fun _ => rfl)] at k9
        obtain ⟨p8, n8, c8, rfl⟩ := m8.sl
        have D8 : Below w.heap.size w w8 := D7.trans (b8.mono D7.size)
        clear k8 D7 M7 o7 i7 m7 m8 ib b7 b8
        go_wp2_with fail
        refine k9.mono ?_
        rintro e w9 ⟨rfl, b9⟩
        have D9 : Below w.heap.size w w9 := D8.trans (b9.mono D8.size)
        clear k9 D8 b9
        -- same
        have k10 := refown_any w9 _ a (RdsM.below HA.out D9) (by have := HLE.out; omega)
        go_wp2_with fail
        refine k10.mono ?_
        rintro e w10 ⟨v10, rfl, m10, b10⟩
        have D10 : Below w.heap.size w w10 := D9.trans (b10.mono D9.size)
        have k11 := refown_any w10 _ b (RdsM.below HB.out D10) (by have := HLE.out; omega)
        obtain ⟨p10, n10, c10, rfl⟩ := m10.sl
        clear k10 D9 b10
        go_wp2_with fail
        refine k11.mono ?_
        rintro e w11 ⟨v11, rfl, m11, b11⟩
        have D11 : Below w.heap.size w w11 := D10.trans (b11.mono D10.size)
        have k12 := is_any w11 _ _ _ _ (m10.below b11) m11
        obtain ⟨p11, n11, c11, rfl⟩ := m11.sl
        obtain ⟨S, hS⟩ : ∃ S, S = decide (rows (ownL a) = rows (ownL b)) := ⟨_, rfl⟩
        rw [← hS] at k12
        have HS : Hid _ := hS
        clear k11 D10 b11 m10 m11 hS
        go_wp2_with fail
        refine k12.mono ?_
        rintro e w12 ⟨rfl, b12⟩
        have D12 : Below w.heap.size w w12 := D11.trans (b12.mono D11.size)
        clear k12 D11 b12
        have k13 := same_any w12 _ _ a b (RdsM.below HA.out D12) (RdsM.below HB.out D12) (by have := HLE.out; omega) (by have := HLE.out; omega)
        go_wp2_with fail
        refine k13.mono ?_
        rintro e w13 ⟨B, rfl, hB, b13⟩
        have D13 : Below w.heap.size w w13 := D12.trans (b13.mono D12.size)
        have hBS : B = S := by
          have h1 := own_one HA.out.few HB.out.few
          have h2 := HS.out
          rw [h2]
          by_cases h : OneBag (rows a) (rows b)
          · rw [hB.2 h, decide_eq_true (h1.1 h)]
          · rw [decide_eq_false fun e => h (h1.2 e)]
            cases B with
            | false => rfl
            | true => exact absurd (hB.1 rfl) h
        subst hBS
        have hbb : (B == B) = true := by simp
        have k14 := refown_any w13 _ a (RdsM.below HA.out D13) (by have := HLE.out; omega)
        have HB13 : Hid _ := hB
        clear k13 D12 b13 hB
        go_wp2_with fail
        refine k14.mono ?_
        rintro e w14 ⟨v14, rfl, m14, b14⟩
        have D14 : Below w.heap.size w w14 := D13.trans (b14.mono D13.size)
        have k15 := same_any w14 _ _ a _ (RdsM.below HA.out D14) m14 (by have := HLE.out; omega) (by have := HLE.out; have := ownL_len a; omega)
        obtain ⟨p14, n14, c14, rfl⟩ := m14.sl
        have HOA : Hid (OneBag (rows a) (rows (ownL a))) := (ownL_bag a HA.out.few).one.symm
        clear k14 D13 b14 m14
        go_wp2_with fail
        refine k15.mono ?_
        rintro e w15 ⟨B2, rfl, hB2, b15⟩
        have hB2t : B2 = true := hB2.2 HOA.out
        subst hB2t
        go_wp2_with fail
        go_ret
        exact ⟨rfl, D14.trans (b15.mono D14.size)⟩
end Go.Proofs.Ytgdeongeonhlpaa
