/- kept.behind. -/
import Derived.Test.YtmnlkmgpikilbaaSeb
namespace Go.Proofs.Ytmnlkmgpikilbaa
open Go.RowKit Go.Maps Go.Sort
set_option linter.unusedVariables false

/-- How many of a batch's facts lie ahead of an offset. -/
def ahd (p : Kp) (off : Nat) : Nat := min (max off p.fr) p.up - p.fr
theorem slice_cells {W : World} {F : Nat → Prop} {p : Kp} (h : KOk W F p) {va : Option Addr} {n vc : Nat} (hv : p.v = .slice va n vc) (a i : Nat) (hi : a + i < p.ts.length) :
    ∃ g, va = some ⟨g, 0, none⟩ ∧ W.cell? ⟨g, a * 3 + i * 3, none⟩ = some (.int .i64 p.ts[a + i]) ∧ W.cell? ⟨g, a * 3 + i * 3 + 1, none⟩ = some nl ∧ W.cell? ⟨g, a * 3 + i * 3 + 2, none⟩ = some nl := by
  have hr := RdsK.of_own h.o
  obtain ⟨ao, cap, e, h0, h2, h3, h4, h5⟩ := hr
  rw [hv] at e
  injection e with e1 e2 e3
  subst e1
  rcases h.o.2 with ⟨_, q⟩ | ⟨g, c, cur, q, _⟩
  · omega
  · rw [hv] at q
    injection q with q1 _ _
    obtain ⟨k1, k2, k3⟩ := fcs_get p.ts (a + i) hi
    have c0 := h5 _ q1 _ _ k1
    have c1 := h5 _ q1 _ _ k2
    have c2 := h5 _ q1 _ _ k3
    rw [Addr.add_lit, Nat.zero_add] at c0 c1 c2
    rw [Nat.add_mul] at c0 c1 c2
    exact ⟨g, q1, c0, c1, c2⟩
theorem own_cap {w : World} {base e k n : Nat} {a : Option Addr} {m c : Nat} {xs : List Value} (h : w.ownsRow base e k (.slice a m c) n xs) : n ≤ c ∧ c ≤ maxLen := by
  obtain ⟨ao, cap, e, h0, h2, h3, h4, h5⟩ := RdsK.of_own h
  injection e with e1 e2 e3
  subst e3
  exact ⟨h2, h3⟩
set_option maxRecDepth 20000 in
set_option maxHeartbeats 4000000 in
theorem behind_any (W : World) (F : Nat → Prop) (p : Kp) (h : KOk W F p) (off : Nat) (hup : p.up ≤ 100000) (hoff : off ≤ 1000000) :
    Calls Try.prog 40 #[.agg (kpa p), .int .u64 (off : Int)] W fun e w' => ∃ v, e = .returned v ∧ w'.ownsRow W.heap.size 38 3 v (p.ts.drop (ahd p off)).length (fcs (p.ts.drop (ahd p off))) ∧ Below W.heap.size W w' := by
  have hrg := h.rg
  obtain ⟨va, vc, hv⟩ := own_sl h.o
  obtain ⟨a, ha⟩ : ∃ a, a = ahd p off := ⟨_, rfl⟩
  obtain ⟨f0, hf0⟩ : ∃ f, f = p.fr := ⟨_, rfl⟩
  obtain ⟨u0, hu0⟩ : ∃ u, u = p.up := ⟨_, rfl⟩
  obtain ⟨m1, hm1⟩ : ∃ m, m = max off p.fr := ⟨_, rfl⟩
  obtain ⟨m2, hm2⟩ : ∃ m, m = min (max off p.fr) p.up := ⟨_, rfl⟩
  have hac : max (off : Int) (f0 : Int) = (m1 : Int) := by omega
  have hac2 : min (m1 : Int) (u0 : Int) = (m2 : Int) := by omega
  have hac3 : (m2 : Int) - (f0 : Int) = (a : Int) := by rw [ha]; unfold ahd; omega
  rw [← ha]
  obtain ⟨n, hn⟩ : ∃ n, n = p.ts.length := ⟨_, rfl⟩
  have han : a ≤ n := by rw [ha, hn]; unfold ahd; omega
  rw [← hn] at hv hrg
  obtain ⟨W1, hW1⟩ : ∃ W1, W1 = W.alloc (.cells (kpa p) 80) := ⟨_, rfl⟩
  have hX : BxA W1 W.heap.size 80 (kpa p) := by rw [hW1]; exact BxA.new _ _ _
  have hB1 : Below W.heap.size W W1 := by rw [hW1]; exact (Below.refl _ _).alloc (Nat.le_refl _) _
  have h1 : KOk W1 F _ := h.frame fun r hr => hB1.block r (World.ownsRow.lt h.o r hr).2
  have c1 : W1.cell? ⟨W.heap.size, 1, none⟩ = some (.int .u64 (f0 : Int)) := by rw [hf0]; exact hX.cell 1 _ rfl
  have c2 : W1.cell? ⟨W.heap.size, 2, none⟩ = some (.int .u64 (u0 : Int)) := by rw [hu0]; exact hX.cell 2 _ rfl
  have c4 : W1.cell? ⟨W.heap.size, 4, none⟩ = some (.slice va n vc) := by rw [← hv]; exact hX.cell 4 _ rfl
  have hcap : n ≤ vc ∧ vc ≤ maxLen := by have := h1.o; rw [hv, ← hn] at this; exact own_cap this
  obtain ⟨hcap, hcm⟩ := hcap
  obtain ⟨i0, z0, hi0, hz0, hz1, hz2, hz3⟩ := info_partsI Try.info_fctI
  obtain ⟨k, hk⟩ : ∃ k, k = n - a := ⟨_, rfl⟩
  have hkn : a + k = n := by omega
  have hkfew : k ≤ 100000 := by omega
  have H1 := hide h1
  have HB1 := hide hB1
  have HN := hide hn
  have HV := hide hv
  have HA := hide ha
  have hafew : a ≤ 100000 := by omega
  have hnfew : n ≤ 100000 := by omega
  clear hX h1 hB1 h ha hn hv hrg hf0 hu0 hm1 hm2 hup hoff
  go_enter Try.func40, Try.ntmps40
  go_upto_region 1 with fail
  rw [← hW1]
  clear hW1
  go_upto_region 4 with fail
  all_goals rw [← hk]
  case inl hva =>
    obtain ⟨sa, hsa⟩ : ∃ sa, sa = va := ⟨_, rfl⟩
    have hk0 : k = 0 := by omega
    have HC : Hid (∀ i, i < k → ∃ g, sa = some ⟨g, a * 3, none⟩ ∧ ∃ (hi : a + i < p.ts.length), W1.cell? ⟨g, a * 3 + i * 3, none⟩ = some (.int .i64 p.ts[a + i]) ∧ W1.cell? ⟨g, a * 3 + i * 3 + 1, none⟩ = some nl ∧ W1.cell? ⟨g, a * 3 + i * 3 + 2, none⟩ = some nl) := by
      apply hide
      intro i hi
      omega
    rw [← hsa]
    clear hac hac2 hac3 c1 c2 c4 hsa hk
    go_loopg [6, 27] k (fun kx v6 v27 wr => ∃ (i : Nat) (x6 : Value), x6 = v6 ∧ v27 = .int .i64 (i : Int) ∧ i ≤ k ∧ k - i ≤ kx ∧ Hid (wr.ownsRow W1.heap.size 38 3 x6 i (fcs ((p.ts.drop a).take i))) ∧ Hid (Below W1.heap.size W1 wr))
    case atStart => exact ⟨0, _, rfl, rfl, Nat.zero_le _, Nat.le_refl _, ⟨rfl, .inl ⟨rfl, rfl⟩⟩, Below.refl _ _⟩
    case round =>
      obtain ⟨i, x6, hx6, rfl, hi, hkx, HO, HBW⟩ := hrel
      subst hx6
      by_cases hlt : i < k
      · exact absurd hlt (by omega)
      · have hik : i = k := by omega
        subst hik
        have hltz : ¬ (i : Int) < (i : Int) := by omega
        go_wp2_with fail
        go_ret
        have hdl : (p.ts.drop a).length = i := by rw [List.length_drop, ← HN.out]; omega
        refine ⟨_, rfl, ?_, HB1.out.trans (HBW.out.mono HB1.out.size)⟩
        have := HO.out
        rw [List.take_of_length_le (by omega)] at this
        have hdl2 : p.ts.length - a = i := by rw [← HN.out]; omega
        first | rw [hdl] | rw [hdl2]
        exact own_mono this HB1.out.size
  case inr hva =>
    obtain ⟨sa, hsa⟩ : ∃ sa, sa = Option.map (fun x : Addr => x.add (a * 3)) va := ⟨_, rfl⟩
    obtain ⟨sc, hsc⟩ : ∃ sc, sc = vc - a := ⟨_, rfl⟩
    have hkc : k ≤ sc := by omega
    have HC : Hid (∀ i, i < k → ∃ g, sa = some ⟨g, a * 3, none⟩ ∧ ∃ (hi : a + i < p.ts.length), W1.cell? ⟨g, a * 3 + i * 3, none⟩ = some (.int .i64 p.ts[a + i]) ∧ W1.cell? ⟨g, a * 3 + i * 3 + 1, none⟩ = some nl ∧ W1.cell? ⟨g, a * 3 + i * 3 + 2, none⟩ = some nl) := by
      apply hide
      intro i hi
      have hia : a + i < p.ts.length := by rw [← HN.out]; omega
      obtain ⟨g, q1, q2, q3, q4⟩ := slice_cells H1.out HV.out a i hia
      refine ⟨g, ?_, hia, q2, q3, q4⟩
      rw [hsa, q1]
      simp [Addr.add_lit]
    rw [← hsa, ← hsc]
    clear hsc
    clear hac hac2 hac3 c1 c2 c4 hsa hk
    go_loopg [6, 27] k (fun kx v6 v27 wr => ∃ (i : Nat) (x6 : Value), x6 = v6 ∧ v27 = .int .i64 (i : Int) ∧ i ≤ k ∧ k - i ≤ kx ∧ Hid (wr.ownsRow W1.heap.size 38 3 x6 i (fcs ((p.ts.drop a).take i))) ∧ Hid (Below W1.heap.size W1 wr))
    case atStart => exact ⟨0, _, rfl, rfl, Nat.zero_le _, Nat.le_refl _, ⟨rfl, .inl ⟨rfl, rfl⟩⟩, Below.refl _ _⟩
    case round =>
      obtain ⟨i, x6, hx6, rfl, hi, hkx, HO, HBW⟩ := hrel
      subst hx6
      by_cases hlt : i < k
      · have hltz : (i : Int) < (k : Int) := by omega
        obtain ⟨g, hsa', hia, d0, d1, d2⟩ := HC.out i hlt
        subst hsa'
        obtain ⟨t, ht⟩ : ∃ t, t = p.ts[a + i] := ⟨_, rfl⟩
        rw [← ht] at d0
        have HTE := hide ht
        have e0 := cell_upB HBW.out d0
        have e1 := cell_upB HBW.out d1
        have e2 := cell_upB HBW.out d2
        clear d0 d1 d2 ht
        go_upto_region 6 with fail
        have HT8 : Hid (BxA (wr.alloc (.cells (fc t) 38)) wr.heap.size 38 (fc t)) := hide (BxA.new _ _ _)
        have hb8 : Below wr.heap.size wr (wr.alloc (.cells (fc t) 38)) := (Below.refl _ _).alloc (Nat.le_refl _) _
        have HB8 := hide (HBW.out.trans (hb8.mono HBW.out.size))
        have HO8 : Hid ((wr.alloc (.cells (fc t) 38)).ownsRow W1.heap.size 38 3 x6 i (fcs ((p.ts.drop a).take i))) := hide (own_blk HO.out fun r hr => hb8.block r (World.ownsRow.lt HO.out r hr).2)
        generalize hW8 : wr.alloc (.cells (fc t) 38) = W8 at *
        generalize wr.heap.size = g8 at *
        clear hW8 hb8 e0 e1 e2
        have t0 : W8.cell? ⟨g8, 0, none⟩ = some (.int .i64 t) := HT8.out.cell 0 _ rfl
        have t1 : W8.cell? ⟨g8, 1, none⟩ = some nl := HT8.out.cell 1 _ rfl
        have t2 : W8.cell? ⟨g8, 2, none⟩ = some nl := HT8.out.cell 2 _ rfl
        go_wp2_with (first
          | (go_at_call 38
             refine (copied_plain t _).mono ?_
             rintro e w4 ⟨he4, hg4⟩
             subst he4
             have hb5 := hg4.below.trans (((Below.refl _ w4).alloc (Nat.le_refl _) (.cells (fc t) 38)).mono hg4.below.size)
             have HB5 := hide (HB8.out.trans (hb5.mono HB8.out.size))
             have HO5 := hide (own_blk HO8.out fun r hr => hb5.block r (World.ownsRow.lt HO8.out r hr).2)
             have HL5 : Hid (BxA (w4.alloc (.cells (fc t) 38)) w4.heap.size 38 (fc t)) := hide (BxA.new _ _ _)
             clear hg4 hb5)
          | (at_builtin
             refine wpList_appF rfl _ _ 43 rfl W1.heap.size 38 i0 z0 3 56 Try.underlying43 hi0 hz0 hz2 hz3 hz1 (by decide) x6 i _ rfl HO5.out (.slice (some ⟨w4.heap.size, 0, none⟩) 1 1) 1 (fc1 t) rfl (litF HL5.out) (fun u hu => by simp only [fc1, List.mem_cons, List.not_mem_nil, or_false] at hu; rcases hu with rfl | rfl | rfl <;> rfl) (by unfold maxLen; omega) (by omega) HB5.out.size ?_
             intro v6 w6 o6 g6 p6
             have HO6 := hide o6
             have HB6 : Hid (Below W1.heap.size W1 w6) := hide (HB5.out.trans ⟨g6.os, g6.tape, g6.output, g6.size, fun q hq => g6.block q (Nat.lt_of_lt_of_le hq HB5.out.size) fun e => by have := (World.ownsRow.lt HO5.out q e.symm).1; omega⟩)
             clear o6 g6 p6))
        go_roundg (k - (i + 1))
        case measure => omega
        case rel =>
          have hil : i < (p.ts.drop a).length := by rw [List.length_drop, ← HN.out]; omega
          exact ⟨i + 1, v6, rfl, rfl, hlt, Nat.le_refl _, by rw [List.take_succ_eq_append_getElem hil, fcs_append, show fcs [(p.ts.drop a)[i]] = fc1 t by rw [List.getElem_drop, ← HTE.out]; simp [fcs]]; exact HO6, HB6⟩
      · have hik : i = k := by omega
        subst hik
        have hltz : ¬ (i : Int) < (i : Int) := by omega
        go_wp2_with fail
        go_ret
        have hdl : (p.ts.drop a).length = i := by rw [List.length_drop, ← HN.out]; omega
        refine ⟨_, rfl, ?_, HB1.out.trans (HBW.out.mono HB1.out.size)⟩
        have := HO.out
        rw [List.take_of_length_le (by omega)] at this
        have hdl2 : p.ts.length - a = i := by rw [← HN.out]; omega
        first | rw [hdl] | rw [hdl2]
        exact own_mono this HB1.out.size
end Go.Proofs.Ytmnlkmgpikilbaa
