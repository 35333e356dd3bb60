/- Contracts of the library's Grow and Concat at rows of facts, and of Join. -/
import Derived.Test.YtgdeongeonhlpaaSame
import Derived.Test.YtgdeongeonhlpaaGrw
namespace Go.Proofs.Ytgdeongeonhlpaa
open Go.RowKit Go.Sort Go.Shelf

theorem grow_any (w : World) (n : Nat) (hbig : n * 64 ≤ 140737488355328) :
    Calls Try.prog 50 #[.slice none 0 0, .int .i64 n] w fun e w' => ∃ v', e = .returned v' ∧ w'.ownsRow w.heap.size 46 4 v' 0 [] ∧ Below w.heap.size w w' := by
  by_cases h0 : n = 0
  · subst h0
    refine (Any8.slices_Grow_room Try.lays8n4 none 0 0 0 w (Nat.le_refl _) (by omega) (by omega) (by omega)).mono ?_
    rintro e w' ⟨rfl, rfl⟩
    exact ⟨_, rfl, World.ownsRow_nil _ _ _ _, Below.refl _ _⟩
  · obtain ⟨i0, hi, hy0, hy1, hy2⟩ := info_parts Try.info_many
    refine (Any8.slices_Grow_grow Try.lays8n4 i0 _ hi hy0 (by rw [hy1]; decide) none 0 0 n [] w (Nat.le_refl _) (by omega) (by rw [hy2, Nat.zero_add]; exact hbig) (by omega) (by simp) (fun _ => rfl) (fun a h => by cases h)).mono ?_
    rintro e w' ⟨rfl, rfl⟩
    refine ⟨_, rfl, ?_, ((Below.refl _ _).drew).alloc (by show w.heap.size ≤ w.heap.size; omega) _⟩
    rw [Nat.zero_add]
    have hge := grownCap_ge w n 0 46
    have hle := grownCap_le_maxLen w n 0 46 (by unfold maxLen; omega)
    refine World.ownsRow_made w.drew _ _ (Nat.le_refl _) hle ?_
    have e4 : (Value.agg #[Value.int .i64 0, .slice none 0 0, .slice none 0 0, .int .u64 0]).cells.size = 4 := rfl
    have e5 : Try.lays8n4_ren.t 25 = 46 := rfl
    rw [e5]
    simp only [Array.size_append, List.size_toArray, List.length_nil, size_zeroCells, e4]
    omega

set_option maxHeartbeats 4000000 in
set_option maxRecDepth 100000 in
theorem concat_any (w : World) (B : Nat) (va vb : Value) (a b : List En) (hB0 : w.cell? ⟨B, 0, none⟩ = some va) (hB1 : w.cell? ⟨B, 1, none⟩ = some vb) (ha : RdsM w va a) (hb : RdsM w vb b) (hbig : (a.length + b.length) * 64 ≤ 140737488355328) :
    Calls Try.prog 34 #[.slice (some ⟨B, 0, none⟩) 2 2] w fun e w' => ∃ v', e = .returned v' ∧ w'.ownsRow w.heap.size 46 4 v' (a.length + b.length) (ev (a ++ b)) ∧ Below w.heap.size w w' := by
  obtain ⟨i0, hi, hy0, hy1, hy2⟩ := info_parts Try.info_many
  obtain ⟨aa, na, ca, rfl⟩ := ha.sl
  obtain ⟨ab, nb, cb, rfl⟩ := hb.sl
  obtain ⟨hna, a1, a2⟩ := ha.len
  obtain ⟨hnb, b1, b2⟩ := hb.len
  unfold maxLen at a2 b2
  have HA : Hid (RdsM w (.slice aa na ca) a) := ha
  have HB : Hid (RdsM w (.slice ab nb cb) b) := hb
  have HN : Hid (na = a.length ∧ nb = b.length) := ⟨hna, hnb⟩
  have hbig' : (na + nb) * 64 ≤ 140737488355328 := by omega
  have hcell := fun w' (h : Below w.heap.size w w') => (⟨by rw [h.cell (World.block_lt_of_cell? _ _ hB0)]; exact hB0, by rw [h.cell (World.block_lt_of_cell? _ _ hB1)]; exact hB1⟩ : w'.cell? ⟨B, 0, none⟩ = some (.slice aa na ca) ∧ w'.cell? ⟨B, 1, none⟩ = some (.slice ab nb cb))
  have HC : Aside _ := hcell
  clear hcell ha hb hna hnb hbig
  obtain ⟨S, hS⟩ : ∃ S, S = na + nb := ⟨_, rfl⟩
  have sz : (na : Int) + (nb : Int) = (S : Int) := by omega
  have HS : Hid (S = na + nb) := hS
  have hSb : S * 64 ≤ 140737488355328 := by omega
  clear hS
  go_enter Try.func34, Try.ntmps34
  go_wp2_with fail
  go_loopg [3, 11] 2 (fun kx vs vi wr => ∃ i s : Nat, vi = .int .i64 i ∧ vs = .int .i64 s ∧ i ≤ 2 ∧ 2 - i ≤ kx ∧ Hid (w = wr) ∧ Hid (s = if i = 0 then 0 else if i = 1 then na else S))
  case atStart => exact ⟨0, 0, rfl, rfl, by omega, Nat.le_refl _, rfl, rfl⟩
  case round =>
    obtain ⟨i, s, rfl, rfl, hi2, hkx, HWW, HSS⟩ := hrel
    obtain rfl := HWW.out
    have hcases : i = 0 ∨ i = 1 ∨ i = 2 := by omega
    rcases hcases with rfl | rfl | rfl
    · have hs := HSS.out
      rw [if_pos rfl] at hs
      subst hs
      clear HSS
      go_wp2_with fail
      go_roundg 1
      case measure => omega
      case rel => exact ⟨1, na, by go_num, by go_num, by omega, by omega, rfl, by show na = _; simp⟩
    · have hs := HSS.out
      rw [if_neg (by omega), if_pos rfl] at hs
      subst hs
      clear HSS
      go_wp2_with fail
      go_roundg 0
      case measure => omega
      case rel => exact ⟨2, S, by go_num, by go_num, by omega, by omega, rfl, by show S = _; simp⟩
    · have hs := HSS.out
      rw [if_neg (by omega), if_neg (by omega)] at hs
      subst hs
      clear HSS
      have kG := grow_any w s (by omega)
      go_wp2_with fail
      refine kG.mono ?_
      rintro e w1 ⟨v1, rfl, o1, b1'⟩
      clear kG
      go_wp2_with fail
      go_loopg [6, 27] 2 (fun kx v6 vi wr => ∃ (i m : Nat) (xs : List En), vi = .int .i64 i ∧ i ≤ 2 ∧ 2 - i ≤ kx ∧ wr.ownsRow w.heap.size 46 4 v6 m (ev xs) ∧ m ≤ s ∧ Hid (m = xs.length ∧ xs = if i = 0 then [] else if i = 1 then a else a ++ b) ∧ Below w.heap.size w wr)
      case atStart => exact ⟨0, 0, [], rfl, by omega, Nat.le_refl _, o1, by omega, ⟨rfl, rfl⟩, b1'⟩
      case round =>
        clear o1 b1'
        obtain ⟨i, m, xs, rfl, hi2', hkx', own, hms, HX, bel⟩ := hrel
        obtain ⟨p0, p1⟩ := HC.out _ bel
        have ra := RdsM.below HA.out bel
        have rb := RdsM.below HB.out bel
        have la := HN.out.1
        have lb := HN.out.2
        have hS2 := HS.out
        have hcases : i = 0 ∨ i = 1 ∨ i = 2 := by omega
        rcases hcases with rfl | rfl | rfl
        · obtain ⟨hm, hx⟩ := HX.out
          rw [if_pos rfl] at hx
          subst hx
          have hm0 : m = 0 := hm
          subst hm0
          have HOW : Hid (wr.ownsRow w.heap.size 46 4 u6 0 (ev [])) := own
          have HRA : Hid (RdsK 4 wr (.slice aa na ca) a.length (ev a)) := ra.r
          have HOK : Aside (∀ u ∈ ev a, u.oneCell' = true) := ev_one ra.ok
          have HLN : Hid (na = a.length ∧ s = na + nb) := ⟨la, hS2⟩
          have hza : 0 + a.length ≤ maxLen := by unfold maxLen; omega
          have hzb : ((0 + a.length) + (0 + a.length) / 4 + 192) * 64 ≤ 281474976710656 := by omega
          have hws := bel.size
          obtain ⟨a6, n6, c6, rfl⟩ := own_sl own
          clear own ra rb la lb hS2 HX hm
          go_wp2_with (first
            | (at_builtin; refine wpList_appK rfl _ _ 36 rfl w.heap.size 46 i0 (.agg #[.int .i64 0, .slice none 0 0, .slice none 0 0, .int .u64 0]) 4 64 Try.underlying36 hi hy0 hy1 hy2 rfl (by decide) _ _ _ rfl HOW.out _ _ _ rfl HRA.out HOK.out hza hzb hws ?_; intro v7 w7 hown7 hgrow7 hnil7))
          go_roundg 1
          case measure => omega
          case rel =>
            refine ⟨1, 0 + a.length, a, by go_num, by omega, by omega, ?_, by have := HLN.out; omega, ⟨by omega, by simp⟩, bel.grown hgrow7 hws fun k hk => (HOW.out.lt k hk).1⟩
            have : ev [] ++ ev a = ev a := by rw [← ev_app]; rfl
            rw [this] at hown7
            exact hown7
        · obtain ⟨hm, hx⟩ := HX.out
          rw [if_neg (by omega), if_pos rfl] at hx
          subst hx
          have HOW : Hid (wr.ownsRow w.heap.size 46 4 u6 m (ev xs)) := own
          have HRA : Hid (RdsK 4 wr (.slice ab nb cb) b.length (ev b)) := rb.r
          have HOK : Aside (∀ u ∈ ev b, u.oneCell' = true) := ev_one rb.ok
          have HLN : Hid (m = xs.length ∧ nb = b.length ∧ s = na + nb ∧ na = xs.length) := ⟨hm, lb, hS2, la⟩
          have hza : m + b.length ≤ maxLen := by unfold maxLen; omega
          have hzb : ((m + b.length) + (m + b.length) / 4 + 192) * 64 ≤ 281474976710656 := by omega
          have hws := bel.size
          obtain ⟨a6, n6, c6, rfl⟩ := own_sl own
          clear own ra rb la lb hS2 HX hm
          go_wp2_with (first
            | (at_builtin; refine wpList_appK rfl _ _ 36 rfl w.heap.size 46 i0 (.agg #[.int .i64 0, .slice none 0 0, .slice none 0 0, .int .u64 0]) 4 64 Try.underlying36 hi hy0 hy1 hy2 rfl (by decide) _ _ _ rfl HOW.out _ _ _ rfl HRA.out HOK.out hza hzb hws ?_; intro v7 w7 hown7 hgrow7 hnil7))
          go_roundg 0
          case measure => omega
          case rel =>
            have hl := HLN.out
            refine ⟨2, m + b.length, xs ++ b, by go_num, by omega, by omega, ?_, by omega, ⟨by simp; omega, by simp⟩, bel.grown hgrow7 hws fun k hk => (HOW.out.lt k hk).1⟩
            rw [ev_app]
            exact hown7
        · obtain ⟨hm, hx⟩ := HX.out
          rw [if_neg (by omega), if_neg (by omega)] at hx
          subst hx
          have hm2 : m = a.length + b.length := by rw [hm]; simp
          have HM2 : Hid (m = a.length + b.length) := hm2
          clear ra rb la lb hS2 HX hm hm2
          go_wp2_with fail
          go_ret
          refine ⟨u6, rfl, ?_, bel⟩
          rw [← HM2.out]
          exact own

set_option maxHeartbeats 1600000 in
theorem join_any (w : World) (va vb : Value) (a b : List En) (ha : RdsM w va a) (hb : RdsM w vb b) (hbig : (a.length + b.length) * 64 ≤ 140737488355328) :
    Calls Try.prog 19 #[va, vb] w fun e w' => ∃ v', e = .returned v' ∧ ∃ l', OwnM w' w.heap.size v' l' ∧ l'.length ≤ a.length + b.length ∧ IsBag (rows a ++ rows b) (rows l') ∧ Below w.heap.size w w' := by
  obtain ⟨aa, na, ca, rfl⟩ := ha.sl
  obtain ⟨ab, nb, cb, rfl⟩ := hb.sl
  obtain ⟨W, hW⟩ : ∃ W, W = w.alloc (.cells #[.slice aa na ca, .slice ab nb cb] 36) := ⟨_, rfl⟩
  have bW : Below w.heap.size w W := by rw [hW]; exact (Below.refl _ _).alloc (Nat.le_refl _) _
  have kC := concat_any W w.heap.size _ _ a b (by rw [hW]; simp) (by rw [hW]; simp) (ha.below bW) (hb.below bW) hbig
  have hok : ∀ e ∈ a ++ b, e.Ok W := fun e he => by
    rcases List.mem_append.1 he with h | h
    · exact (ha.below bW).ok e h
    · exact (hb.below bW).ok e h
  have HO : Aside (∀ e ∈ a ++ b, e.Ok W) := hok
  have HBW : Hid (Below w.heap.size w W) := bW
  rw [hW] at kC
  have HW : Hid _ := hW
  clear hok bW hW ha hb
  go_enter Try.func19, Try.ntmps19
  go_wp2_with fail
  refine kC.mono ?_
  rintro e w1 ⟨v1, rfl, o1, b1⟩
  rw [← HW.out] at b1 o1
  clear kC
  have hm : RdsM w1 v1 (a ++ b) := ⟨by rw [List.length_append]; exact RdsK.of_own o1, fun e he => (HO.out e he).below b1⟩
  have kB := bagOf_any w1 v1 (a ++ b) hm (by rw [List.length_append]; omega)
  have e1 : rows (a ++ b) = rows a ++ rows b := by simp [rows]
  rw [e1, List.length_append] at kB
  obtain ⟨a1, n1, c1, rfl⟩ := own_sl o1
  have HB1 : Hid (Below W.heap.size W w1) := b1
  clear hm o1 b1 e1
  go_wp2_with fail
  refine kB.mono ?_
  rintro e w2 ⟨v2, rfl, l', om, hll, hib, b2⟩
  go_wp2_with fail
  go_ret
  have h1 := HBW.out.size
  have h2 := HB1.out.size
  have hb1 := HBW.out.trans (HB1.out.mono h1)
  exact ⟨v2, rfl, l', om.mono hb1.size, hll, hib, hb1.trans (b2.mono hb1.size)⟩
end Go.Proofs.Ytgdeongeonhlpaa
