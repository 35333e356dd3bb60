/- The contract of the library's Insert at rows of keys: at the end. -/
import Derived.Test.YtgbmigfamefenaaInM
namespace Go.Proofs.Ytgbmigfamefenaa
open Go.RowKit Go.Maps Go.Sort
set_option linter.unusedVariables false

/-- Behind Insert. -/
def Nw (w : World) (R : Option Nat) (v' : Value) : Prop := v'.ownBlock = R ∨ ∃ g, v'.ownBlock = some g ∧ w.heap.size ≤ g
structure Ins (w w' : World) (base : Nat) (l : List K3) (R : Option Nat) (e : Ending) : Prop where
  ex : ∃ v', e = .returned v' ∧ RowO w' base v' l ∧ Nw w R v'
  bel : Below base w w'
  gr : w.grownBy w' R
theorem grown_setRow (w : World) (g : Nat) (cs : Array Value) : w.grownBy (w.setRow g cs) (some g) :=
  have h := below_setRow (Below.refl g w) (Nat.le_refl g) cs
  ⟨h.os, h.tape, h.output, h.size, fun i _ hi => setRow_other _ _ _ _ (fun q => hi (by rw [q]))⟩
theorem grown_of_below {w w' : World} (h : Below w.heap.size w w') (R : Option Nat) : w.grownBy w' R := ⟨h.os, h.tape, h.output, h.size, fun i hi _ => h.block i hi⟩
theorem set_below {B g : Nat} {w : World} {cs : Array Value} (hBg : B ≤ g) : Below B w (w.setRow g cs) := below_setRow (Below.refl _ _) hBg cs
theorem zc3 (m : Nat) : (Builtin.zeroCells (Value.agg #[.int .i64 0, .int .i64 0, .int .i64 0]).cells m).size = m * 3 := by
  simp [Builtin.zeroCells, Value.cells]
theorem cells_at {w : World} {vb : Nat} {k : K3} (h : BxA w vb 55 #[.int .i64 k.1, .int .i64 k.2.1, .int .i64 k.2.2]) : ∀ j u, (kc k)[j]? = some u → w.cell? ((⟨vb, 0, none⟩ : Addr).add j) = some u := by
  intro j u hj
  rw [Addr.add_lit, Nat.zero_add]
  have hl : j < 3 := (List.getElem?_eq_some_iff.1 hj).1
  refine h.cell j u ?_
  rw [← hj]
  unfold kc
  match j, hl with
  | 0, _ => rfl
  | 1, _ => rfl
  | 2, _ => rfl
theorem kc_one (k : K3) : ∀ u ∈ kc k, u.oneCell' = true := by
  intro u hu
  simp [kc] at hu
  rcases hu with rfl | rfl | rfl <;> rfl
/-- Behind the row's elements a key is laid. -/
theorem RoO.snoc {w : World} {base : Nat} {v : Value} {l : List K3} {g o cap : Nat} {cur : List Value} (h : RoO w base v l g o cap cur) (hr : l.length + 1 ≤ cap) (k : K3) :
    RoO (w.setRow g (cur.take (o + l.length * 3) ++ kc k ++ cur.drop (o + l.length * 3 + (kc k).length)).toArray) base (.slice (some ⟨g, o, none⟩) (l.length + 1) cap) (l ++ [k]) g o cap (cur.take (o + l.length * 3) ++ kc k ++ cur.drop (o + l.length * 3 + (kc k).length)) := by
  have hf := h.fit
  have h3 : (kc k).length = 3 := rfl
  refine ⟨by simp, h.bg, setRow_heap _ _ _ _ _ _ h.blk, by simpa using hr, ?_, h.big, ?_⟩
  · simp only [List.length_append, List.length_take, List.length_drop, h3]
    omega
  · rw [kcs_append]
    have e0 : kcs [k] = kc k := by simp [kcs]
    rw [e0, ← h.is]
    have hlen : (cur.take (o + l.length * 3)).length = o + l.length * 3 := by rw [List.length_take]; omega
    rw [List.append_assoc, List.drop_append_of_le_length (by rw [hlen]; omega), List.drop_take]
    have e1 : o + l.length * 3 - o = l.length * 3 := by omega
    rw [e1]
    have hl2 : ((cur.drop o).take (l.length * 3)).length = l.length * 3 := by rw [List.length_take, List.length_drop]; omega
    rw [List.take_append, List.take_of_length_le (by rw [hl2, List.length_append]; simp only [List.length_singleton]; omega), hl2]
    congr 1
    have e2 : (l ++ [k]).length * 3 - l.length * 3 = 3 := by simp; omega
    rw [e2, List.take_append, List.take_of_length_le (by rw [h3]; omega), h3]
    simp
theorem RoO.fresh (w : World) (base : Nat) (l : List K3) (cap : Nat) (zs : List Value) (hz : zs.length = (cap - l.length) * 3) (hc : l.length ≤ cap) (hm : cap ≤ maxLen) (hb : base ≤ w.heap.size) (A : Array Value) (hA : A = (kcs l ++ zs).toArray) : RoO (w.alloc (.cells A 55)) base (.slice (some ⟨w.heap.size, 0, none⟩) l.length cap) l w.heap.size 0 cap (kcs l ++ zs) := by
  refine ⟨rfl, hb, ?_, hc, ?_, hm, ?_⟩
  · rw [hA]; exact BxA.new _ _ _
  · rw [List.length_append, kcs_length, hz]; omega
  · rw [List.drop_zero, List.take_append_of_le_length (by rw [kcs_length]; exact Nat.le_refl _), List.take_of_length_le (by rw [kcs_length]; exact Nat.le_refl _)]
set_option maxRecDepth 100000 in
set_option maxHeartbeats 3200000 in
theorem ins_end (w : World) (base : Nat) (v : Value) (l : List K3) (k : K3) (vb : Nat) (h : RowO w base v l) (hvb : BxA w vb 55 #[.int .i64 k.1, .int .i64 k.2.1, .int .i64 k.2.2]) (hb : base ≤ w.heap.size) (hlen : l.length ≤ 100000) :
    Calls Try.prog 63 #[v, .int .i64 (l.length : Int), .slice (some ⟨vb, 0, none⟩) 1 1] w fun e w' => Ins w w' base (l ++ [k]) v.ownBlock e := by
  obtain ⟨i0, hi0, hi1, hi2, hi3⟩ := info_parts Try.info_key
  rcases h with ⟨rfl, rfl⟩ | ⟨g, o, cap, cur, h⟩
  · have HLO : Hid (RdsK 3 w (.slice (some ⟨vb, 0, none⟩) 1 1) 1 (kc k)) := ⟨some ⟨vb, 0, none⟩, 1, rfl, rfl, Nat.le_refl _, by simp [maxLen], (fun q => by cases q), fun ad ha j u hj => by cases ha; exact cells_at hvb j u hj⟩
    have HAO : Hid (w.ownsRow base 55 3 (.slice none 0 0) 0 []) := ⟨rfl, .inl ⟨rfl, rfl⟩⟩
    go_enter Try.func63, Try.ntmps63
    go_wp2_with (first | (at_builtin; refine wpList_appF rfl _ _ 52 rfl base 55 i0 (.agg #[.int .i64 0, .int .i64 0, .int .i64 0]) 3 24 Try.underlying52 hi0 hi1 hi2 hi3 rfl (by decide) (.slice none 0 0) 0 [] rfl HAO.out (.slice (some ⟨vb, 0, none⟩) 1 1) 1 (kc k) rfl HLO.out (kc_one k) (by unfold maxLen; omega) (by omega) hb ?_; intro v5 w5 o5 g5 n5; have H5 : Hid (w5.ownsRow base 55 3 v5 (0 + 1) ([] ++ kc k) ∧ w.grownBy w5 none ∧ Nw w none v5) := ⟨o5, g5, n5⟩; clear o5 g5 n5))
    go_ret
    obtain ⟨o5, g5, n5⟩ := H5.out
    refine ⟨⟨_, rfl, RowO.of_own ?_, n5⟩, ⟨g5.os, g5.tape, g5.output, g5.size, fun i hi => g5.block i (by omega) (by simp)⟩, g5⟩
    unfold OwK
    have e : kcs [k] = [] ++ kc k := by simp [kcs]
    rw [e]
    exact o5
  · obtain rfl := h.v
    have hle := h.le
    have hbig := h.big
    unfold maxLen at hbig
    obtain ⟨n, hn⟩ : ∃ n, n = l.length := ⟨_, rfl⟩
    have HN : Hid (n = l.length) := hn
    have HH : Hid (RoO w base (.slice (some ⟨g, o, none⟩) l.length cap) l g o cap cur) := h
    have hfit := h.fit
    by_cases hroom : l.length + 1 ≤ cap
    · have hr : ∀ ty, (Builtin.append_ #[52, 52] ty #[.slice (some ⟨g, o, none⟩) n cap, .slice (some ⟨vb, 0, none⟩) 1 1]).run Try.prog w = .ok (.slice (some ⟨g, o, none⟩) (n + 1) cap) (w.setRow g (cur.take (o + n * 3) ++ kc k ++ cur.drop (o + n * 3 + (kc k).length)).toArray) := fun ty => by
        have := run_append_roomO (P := Try.prog) w 52 ty 55 i0 Try.underlying52 hi0 g o n cap cur h.blk ⟨vb, 0, none⟩ 1 1 (kc k) (by rw [hi2]; rfl) (cells_at hvb) (kc_one k) (by omega) (by rw [hi2]; have : (kc k).length = 3 := rfl; omega)
        rw [hi2] at this
        exact this
      have HS : Hid _ := h.snoc hroom k
      rw [← hn] at HS hle
      rw [← hn]
      have hci : ¬ cap = n := by omega
      obtain ⟨W, hW⟩ : ∃ W, W = w.setRow g (cur.take (o + n * 3) ++ kc k ++ cur.drop (o + n * 3 + (kc k).length)).toArray := ⟨_, rfl⟩
      rw [← hW] at HS
      simp only [← hW] at hr
      have HB : Hid (Below base w W) := by apply hide; rw [hW]; exact set_below h.bg
      have HG : Hid (w.grownBy W (some g)) := by apply hide; rw [hW]; exact grown_setRow w g _
      clear h hn hfit hW
      go_enter Try.func63, Try.ntmps63
      go_wp2_with (first | (at_builtin; refine Lib.wpList_append_run _ rfl _ _ 52 52 rfl _ _ rfl rfl _ _ (hr _) ?_))
      go_ret
      exact ⟨⟨_, rfl, .inr ⟨g, o, cap, _, HS.out⟩, .inl rfl⟩, HB.out, HG.out⟩
    · obtain ⟨G, hG⟩ : ∃ G, G = grownCap w (n + 1) cap 55 := ⟨_, rfl⟩
      have hGge : n + 1 ≤ G := by rw [hG]; exact grownCap_ge w _ _ _
      have hGm : G ≤ maxLen := by rw [hG]; exact grownCap_le_maxLen w _ _ _ (by unfold maxLen; omega)
      have hr : ∀ ty, (Builtin.append_ #[52, 52] ty #[.slice (some ⟨g, o, none⟩) n cap, .slice (some ⟨vb, 0, none⟩) 1 1]).run Try.prog w = .ok (.slice (some ⟨w.heap.size, 0, none⟩) (n + 1) G) (w.drew.alloc (.cells ((kcs l).toArray ++ (kc k).toArray ++ Builtin.zeroCells (Value.agg #[.int .i64 0, .int .i64 0, .int .i64 0]).cells (G - (n + 1))) 55)) := fun ty => by
        have := run_append_grow (P := Try.prog) w 52 ty 55 i0 _ Try.underlying52 hi0 hi1 ⟨g, o, none⟩ n cap (kcs l) (by rw [hi2, kcs_length, hn]) (fun j u hj => by rw [Addr.add_lit]; exact h.cell j u hj) ⟨vb, 0, none⟩ 1 1 (kc k) (by rw [hi2]; rfl) (cells_at hvb) (by omega) (by omega) (by rw [hi3]; exact growslice_fits (by omega) (by omega))
        rw [← hG] at this
        exact this
      have HS : Hid _ := RoO.fresh w.drew base (l ++ [k]) G (Builtin.zeroCells (Value.agg #[.int .i64 0, .int .i64 0, .int .i64 0]).cells (G - (n + 1))).toList (by rw [Array.length_toList, zc3]; simp [hn]) (by simp; omega) hGm hb ((kcs l).toArray ++ (kc k).toArray ++ Builtin.zeroCells (Value.agg #[.int .i64 0, .int .i64 0, .int .i64 0]).cells (G - (n + 1))) (by rw [kcs_append]; simp [kcs])
      have e1 : (l ++ [k]).length = n + 1 := by simp [hn]
      rw [e1] at HS
      rw [← hn]
      obtain ⟨W, hW⟩ : ∃ W, W = w.drew.alloc (.cells ((kcs l).toArray ++ (kc k).toArray ++ Builtin.zeroCells (Value.agg #[.int .i64 0, .int .i64 0, .int .i64 0]).cells (G - (n + 1))) 55) := ⟨_, rfl⟩
      rw [← hW] at HS
      simp only [← hW] at hr
      have HB : Hid (Below base w W) := by apply hide; rw [hW]; exact ((Below.refl _ _).drew).trans (((Below.refl _ _).alloc (Nat.le_refl _) _).mono hb)
      have HG : Hid (w.grownBy W (some g)) := by apply hide; rw [hW]; exact grown_of_below (((Below.refl w.heap.size w).drew).trans ((Below.refl w.heap.size w.drew).alloc (Nat.le_refl _) _)) _
      have hcn : cap = n := by omega
      rw [← hn] at hle
      clear h hn hfit hW hG hroom
      subst hcn
      go_enter Try.func63, Try.ntmps63
      go_wp2_with (first | (at_builtin; refine Lib.wpList_append_run _ rfl _ _ 52 52 rfl _ _ rfl rfl _ _ (hr _) ?_))
      go_ret
      exact ⟨⟨_, rfl, .inr ⟨_, 0, G, _, HS.out⟩, .inr ⟨_, rfl, Nat.le_refl _⟩⟩, HB.out, HG.out⟩
end Go.Proofs.Ytgbmigfamefenaa
