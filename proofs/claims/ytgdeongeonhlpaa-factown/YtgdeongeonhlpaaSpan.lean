/- Contracts of Within and Without. -/
import Derived.Test.YtgdeongeonhlpaaJoin
namespace Go.Proofs.Ytgdeongeonhlpaa
open Go.RowKit Go.Sort

/-- Is a time of a span? -/
def inS (F T t : Int) : Bool := decide (F ≤ t ∧ t < T)
set_option maxHeartbeats 400000 in
theorem holds_any (w : World) (F T t : Int) :
    Calls Try.prog 39 #[.agg #[.int .i64 F, .int .i64 T], .int .i64 t] w fun e w' => e = .returned (.bool (inS F T t)) ∧ Below w.heap.size w w' := by
  have hb : Below w.heap.size w (w.alloc (.cells #[.int .i64 F, .int .i64 T] 43)) := (Below.refl _ _).alloc (Nat.le_refl _) _
  by_cases h1 : F ≤ t
  · by_cases h2 : t < T
    · have e : inS F T t = true := decide_eq_true ⟨h1, h2⟩
      rw [e]
      clear e
      go_enter Try.func39, Try.ntmps39
      go_wp2_with fail
      go_ret
      exact ⟨rfl, hb⟩
    · have e : inS F T t = false := decide_eq_false fun h => h2 h.2
      rw [e]
      clear e
      go_enter Try.func39, Try.ntmps39
      go_wp2_with fail
      go_ret
      exact ⟨rfl, hb⟩
  · have e : inS F T t = false := decide_eq_false fun h => h1 h.1
    rw [e]
    clear e
    go_enter Try.func39, Try.ntmps39
    go_wp2_with fail
    go_ret
    exact ⟨rfl, hb⟩

set_option maxHeartbeats 800000 in
theorem within_clo (w : World) (B : Nat) (F T : Int) (f : Fc) (h0 : w.cell? ⟨B, 0, none⟩ = some (.int .i64 F)) (h1 : w.cell? ⟨B, 1, none⟩ = some (.int .i64 T)) :
    Calls Try.prog 38 #[.agg #[.int .i64 f.t, f.dv, f.mv], .pointer (some ⟨B, 0, none⟩)] w fun e w' => e = .returned (.bool (inS F T f.t)) ∧ Below w.heap.size w w' := by
  have hb : Below w.heap.size w (w.alloc (.cells #[.int .i64 f.t, f.dv, f.mv] 27)) := (Below.refl _ _).alloc (Nat.le_refl _) _
  have k0 := cell_alloc_sl (.cells #[.int .i64 f.t, f.dv, f.mv] 27) h0
  have k1 := cell_alloc_sl (.cells #[.int .i64 f.t, f.dv, f.mv] 27) h1
  have kh := holds_any (w.alloc (.cells #[.int .i64 f.t, f.dv, f.mv] 27)) F T f.t
  clear h0 h1
  generalize inS F T f.t = Z at *
  go_enter Try.func38, Try.ntmps38
  go_wp2_with fail
  refine kh.mono ?_
  rintro e w1 ⟨rfl, b1⟩
  have HB : Hid (Below w.heap.size w w1) := hb.trans (b1.mono (by simp))
  clear b1 kh k0 k1 hb
  go_wp2_with fail
  go_ret
  exact ⟨rfl, HB.out⟩

set_option maxHeartbeats 4000000 in
theorem within_taken (w : World) (v : Value) (l : List En) (B : Nat) (F T : Int) (h : RdsM w v l) (hB0 : w.cell? ⟨B, 0, none⟩ = some (.int .i64 F)) (hB1 : w.cell? ⟨B, 1, none⟩ = some (.int .i64 T)) (hbig : l.length * 64 ≤ 160842843834660) :
    Calls Try.prog 37 #[v, .func (.func 38) #[] #[.pointer (some ⟨B, 0, none⟩)]] w fun e w' => ∃ v', e = .returned v' ∧ ∃ l', OwnM w' w.heap.size v' l' ∧ l'.length ≤ l.length ∧ IsBag (rows (l.filter fun e => inS F T e.f.t)) (rows l') ∧ Below w.heap.size w w' := by
  obtain ⟨i0, hi, hy0, hy1, hy2⟩ := info_parts Try.info_many
  obtain ⟨ao, n, cap, rfl⟩ := h.sl
  obtain ⟨hn, c1, c2⟩ := h.len
  unfold maxLen at c2
  have HN : Hid (n = l.length) := hn
  have HH : Hid (RdsM w (.slice ao n cap) l) := h
  have hcell := fun w' (h : Below w.heap.size w w') => (⟨by rw [h.cell (World.block_lt_of_cell? _ _ hB0)]; exact hB0, by rw [h.cell (World.block_lt_of_cell? _ _ hB1)]; exact hB1⟩ : w'.cell? ⟨B, 0, none⟩ = some (.int .i64 F) ∧ w'.cell? ⟨B, 1, none⟩ = some (.int .i64 T))
  have HC : Aside _ := hcell
  have hbn : n * 64 ≤ 160842843834660 := by omega
  clear hcell h hn hB0 hB1 hbig
  have og := own_made0 w 46 4
  go_enter Try.func37, Try.ntmps37
  go_wp2_with fail
  go_loopg [5, 11] n (fun kx v5 vi wr => ∃ (i m : Nat) (out : List En), vi = .int .i64 i ∧ i ≤ n ∧ n - i ≤ kx ∧ m ≤ i ∧ wr.ownsRow w.heap.size 46 4 v5 m (ev out) ∧ Hid (m = out.length ∧ out = (l.take i).filter fun e => inS F T e.f.t) ∧ Below w.heap.size w wr)
  case atStart => exact ⟨0, 0, [], rfl, by omega, Nat.le_refl _, Nat.le_refl _, og, ⟨rfl, by simp⟩, (Below.refl _ _).alloc (Nat.le_refl _) _⟩
  case round =>
    clear og
    obtain ⟨i, m, out, rfl, hin, hkx, hmi, own, HX, bel⟩ := hrel
    by_cases hlt : i < n
    · have hltz : (i : Int) < (n : Int) := by omega
      have hil : i < l.length := by have := HN.out; omega
      have hr := RdsM.below HH.out bel
      obtain ⟨-, -, -, b, off, rfl, hcl⟩ := hr.at (by omega)
      obtain ⟨q0, q1, q2, q3⟩ := hcl i hil
      have ox := hr.ok l[i] (List.getElem_mem hil)
      have htk : l.take (i + 1) = l.take i ++ [l[i]] := List.take_succ_eq_append_getElem hil
      generalize l[i] = x at *
      obtain ⟨aD, nD, cD, hD⟩ := ox.f.rd.sl
      obtain ⟨aM, nM, cM, hM⟩ := ox.f.rm.sl
      obtain ⟨W, hW⟩ : ∃ W, W = wr.alloc (.cells #[.int .i64 x.f.t, x.f.dv, x.f.mv, .int .u64 x.n] 46) := ⟨_, rfl⟩
      have bW : Below wr.heap.size wr W := by rw [hW]; exact (Below.refl _ _).alloc (Nat.le_refl _) _
      have bwW : Below w.heap.size w W := bel.trans (bW.mono bel.size)
      obtain ⟨s0, s1⟩ := HC.out W bwW
      have kc := within_clo W B F T x.f s0 s1
      have hbox : ∀ w5, Below W.heap.size W w5 → w5.cell? ⟨wr.heap.size, 0, none⟩ = some (.int .i64 x.f.t) ∧ w5.cell? ⟨wr.heap.size, 1, none⟩ = some x.f.dv ∧ w5.cell? ⟨wr.heap.size, 2, none⟩ = some x.f.mv ∧ w5.cell? ⟨wr.heap.size, 3, none⟩ = some (.int .u64 x.n) := fun w5 h5 => by
        have hlt5 : wr.heap.size < W.heap.size := by rw [hW]; simp
        refine ⟨?_, ?_, ?_, ?_⟩ <;> (rw [h5.cell (by exact hlt5), hW]; simp)
      have HBX : Aside _ := hbox
      have HOW : Hid (W.ownsRow w.heap.size 46 4 u5 m (ev out)) := own_below own bW
      obtain ⟨a5, n5, c5, rfl⟩ := own_sl own
      have HBW : Hid (Below w.heap.size w W) := bwW
      have HT : Hid _ := htk
      have HOX : Hid (x.Ok wr) := ox
      have HD : Hid (x.f.dv = .slice aD nD cD ∧ x.f.mv = .slice aM nM cM) := ⟨hD, hM⟩
      have HW : Hid _ := hW
      have HBW2 : Hid (Below wr.heap.size wr W) := bW
      rw [hW, hD, hM] at kc
      rw [hD] at q1
      rw [hM] at q2
      rw [hD, hM] at HW
      obtain ⟨Z, hZ⟩ : ∃ Z, Z = inS F T x.f.t := ⟨_, rfl⟩
      rw [← hZ] at kc
      have HZ : Hid (Z = inS F T x.f.t) := hZ
      clear hZ hbox own bW bwW hW hD hM ox hr hcl htk bel s0 s1
      cases Z with
      | true =>
        go_wp2_with fail
        refine kc.mono ?_
        rintro e w5 ⟨rfl, b5⟩
        rw [← HW.out] at b5
        obtain ⟨y0, y1, y2, y3⟩ := HBX.out w5 b5
        rw [HD.out.1] at y1
        rw [HD.out.2] at y2
        have bw5 : Below w.heap.size w w5 := HBW.out.trans (b5.mono HBW.out.size)
        have ow5 : w5.ownsRow w.heap.size 46 4 (.slice a5 n5 c5) m (ev out) := own_below HOW.out b5
        have rone := one_rds w5 x _ rfl
        rw [HD.out.1, HD.out.2] at rone
        have HR : Hid (RdsK 4 (w5.alloc (.cells #[.int .i64 x.f.t, .slice aD nD cD, .slice aM nM cM, .int .u64 x.n] 46)) (.slice (some ⟨w5.heap.size, 0, none⟩) 1 1) 1 (ev [x])) := rone
        have HOO : Aside (∀ u ∈ ev [x], u.oneCell' = true) := ev_one (w := wr) fun e he => by
          simp only [List.mem_singleton] at he
          subst he
          exact HOX.out
        have HO5 : Hid ((w5.alloc (.cells #[.int .i64 x.f.t, .slice aD nD cD, .slice aM nM cM, .int .u64 x.n] 46)).ownsRow w.heap.size 46 4 (.slice a5 n5 c5) m (ev out)) := ow5.alloc _
        have HB5 : Hid (Below w.heap.size w (w5.alloc (.cells #[.int .i64 x.f.t, .slice aD nD cD, .slice aM nM cM, .int .u64 x.n] 46))) := bw5.alloc bw5.size _
        have hza : m + 1 ≤ maxLen := by unfold maxLen; omega
        have hzb : ((m + 1) + (m + 1) / 4 + 192) * 64 ≤ 281474976710656 := by omega
        have hws : w.heap.size ≤ (w5.alloc (.cells #[.int .i64 x.f.t, .slice aD nD cD, .slice aM nM cM, .int .u64 x.n] 46)).heap.size := HB5.out.size
        clear kc b5 bw5 ow5 rone HOW HBX HW
        go_wp2_with (first
          | (at_builtin; refine wpList_appK rfl _ _ 36 rfl w.heap.size 46 i0 (.agg #[.int .i64 0, .slice none 0 0, .slice none 0 0, .int .u64 0]) 4 64 Try.underlying36 hi hy0 hy1 hy2 rfl (by decide) _ _ _ rfl HO5.out _ _ _ rfl HR.out HOO.out hza hzb hws ?_; intro v7 w7 hown7 hgrow7 hnil7))
        go_roundg (n - (i + 1))
        case measure => omega
        case rel =>
          obtain ⟨x1, x2⟩ := HX.out
          refine ⟨i + 1, m + 1, out ++ [x], by go_num, by omega, Nat.le_refl _, by omega, by rw [ev_app]; exact hown7, ⟨by simp; omega, ?_⟩, HB5.out.grown hgrow7 hws fun k hk => (HO5.out.lt k hk).1⟩
          rw [HT.out, List.filter_append, ← x2]
          simp [← HZ.out]
      | false =>
        go_wp2_with fail
        refine kc.mono ?_
        rintro e w5 ⟨rfl, b5⟩
        rw [← HW.out] at b5
        have HB5 : Hid (Below w.heap.size w w5) := HBW.out.trans (b5.mono HBW.out.size)
        have HO5 : Hid (w5.ownsRow w.heap.size 46 4 (.slice a5 n5 c5) m (ev out)) := own_below HOW.out b5
        clear kc b5 HOW HBX HW
        go_wp2_with fail
        go_roundg (n - (i + 1))
        case measure => omega
        case rel =>
          obtain ⟨x1, x2⟩ := HX.out
          refine ⟨i + 1, m, out, by go_num, by omega, Nat.le_refl _, by omega, HO5.out, ⟨x1, ?_⟩, HB5.out⟩
          rw [HT.out, List.filter_append, ← x2]
          simp [← HZ.out]
    · have hltz : ¬ (i : Int) < (n : Int) := by omega
      obtain ⟨x1, x2⟩ := HX.out
      rw [List.take_of_length_le (by have := HN.out; omega)] at x2
      have hm : RdsM wr u5 out := ⟨by rw [← x1]; exact RdsK.of_own own, fun e he => (HH.out.ok e (by rw [x2] at he; exact (List.mem_filter.1 he).1)).below bel⟩
      have kB := bagOf_any wr u5 out hm (by omega)
      rw [x2] at kB
      obtain ⟨a5, n5, c5, rfl⟩ := own_sl own
      have hfl : (l.filter fun e => inS F T e.f.t).length ≤ l.length := List.length_filter_le _ _
      have HF : Hid _ := hfl
      have HBel : Hid (Below w.heap.size w wr) := bel
      clear hm own x1 x2 HX bel hfl
      go_wp2_with fail
      refine kB.mono ?_
      rintro e w5 ⟨v5', rfl, l', om, hll, hib, b5⟩
      go_wp2_with fail
      go_ret
      exact ⟨v5', rfl, l', om.mono HBel.out.size, Nat.le_trans hll HF.out, hib, HBel.out.trans (b5.mono HBel.out.size)⟩

set_option maxHeartbeats 800000 in
theorem within_any (w : World) (v : Value) (l : List En) (F T : Int) (h : RdsM w v l) (hbig : l.length * 64 ≤ 160842843834660) :
    Calls Try.prog 22 #[v, .agg #[.int .i64 F, .int .i64 T]] w fun e w' => ∃ v', e = .returned v' ∧ ∃ l', OwnM w' w.heap.size v' l' ∧ l'.length ≤ l.length ∧ IsBag (rows (l.filter fun e => inS F T e.f.t)) (rows l') ∧ Below w.heap.size w w' := by
  obtain ⟨W, hW⟩ : ∃ W, W = w.alloc (.cells #[.int .i64 F, .int .i64 T] 43) := ⟨_, rfl⟩
  have bW : Below w.heap.size w W := by rw [hW]; exact (Below.refl _ _).alloc (Nat.le_refl _) _
  have kT := within_taken W v l w.heap.size F T (h.below bW) (by rw [hW]; simp) (by rw [hW]; simp) hbig
  obtain ⟨ao, n, cap, rfl⟩ := h.sl
  rw [hW] at kT
  have HW : Hid _ := hW
  have HB : Hid (Below w.heap.size w W) := bW
  clear h hW bW
  go_enter Try.func22, Try.ntmps22
  go_wp2_with fail
  refine kT.mono ?_
  rintro e w5 ⟨v5, rfl, l', om, hll, hib, b5⟩
  rw [← HW.out] at om b5
  go_wp2_with fail
  go_ret
  exact ⟨v5, rfl, l', om.mono HB.out.size, hll, hib, HB.out.trans (b5.mono HB.out.size)⟩

set_option maxHeartbeats 800000 in
theorem without_clo (w : World) (B : Nat) (F T : Int) (f : Fc) (h0 : w.cell? ⟨B, 0, none⟩ = some (.int .i64 F)) (h1 : w.cell? ⟨B, 1, none⟩ = some (.int .i64 T)) :
    Calls Try.prog 40 #[.agg #[.int .i64 f.t, f.dv, f.mv], .pointer (some ⟨B, 0, none⟩)] w fun e w' => e = .returned (.bool (!inS F T f.t)) ∧ Below w.heap.size w w' := by
  have hb : Below w.heap.size w (w.alloc (.cells #[.int .i64 f.t, f.dv, f.mv] 27)) := (Below.refl _ _).alloc (Nat.le_refl _) _
  have k0 := cell_alloc_sl (.cells #[.int .i64 f.t, f.dv, f.mv] 27) h0
  have k1 := cell_alloc_sl (.cells #[.int .i64 f.t, f.dv, f.mv] 27) h1
  have kh := holds_any (w.alloc (.cells #[.int .i64 f.t, f.dv, f.mv] 27)) F T f.t
  clear h0 h1
  generalize inS F T f.t = Z at *
  go_enter Try.func40, Try.ntmps40
  go_wp2_with fail
  refine kh.mono ?_
  rintro e w1 ⟨rfl, b1⟩
  have HB : Hid (Below w.heap.size w w1) := hb.trans (b1.mono (by simp))
  clear b1 kh k0 k1 hb
  go_wp2_with fail
  go_ret
  exact ⟨rfl, HB.out⟩

set_option maxHeartbeats 4000000 in
theorem without_taken (w : World) (v : Value) (l : List En) (B : Nat) (F T : Int) (h : RdsM w v l) (hB0 : w.cell? ⟨B, 0, none⟩ = some (.int .i64 F)) (hB1 : w.cell? ⟨B, 1, none⟩ = some (.int .i64 T)) (hbig : l.length * 64 ≤ 160842843834660) :
    Calls Try.prog 37 #[v, .func (.func 40) #[] #[.pointer (some ⟨B, 0, none⟩)]] w fun e w' => ∃ v', e = .returned v' ∧ ∃ l', OwnM w' w.heap.size v' l' ∧ l'.length ≤ l.length ∧ IsBag (rows (l.filter fun e => !inS F T e.f.t)) (rows l') ∧ Below w.heap.size w w' := by
  obtain ⟨i0, hi, hy0, hy1, hy2⟩ := info_parts Try.info_many
  obtain ⟨ao, n, cap, rfl⟩ := h.sl
  obtain ⟨hn, c1, c2⟩ := h.len
  unfold maxLen at c2
  have HN : Hid (n = l.length) := hn
  have HH : Hid (RdsM w (.slice ao n cap) l) := h
  have hcell := fun w' (h : Below w.heap.size w w') => (⟨by rw [h.cell (World.block_lt_of_cell? _ _ hB0)]; exact hB0, by rw [h.cell (World.block_lt_of_cell? _ _ hB1)]; exact hB1⟩ : w'.cell? ⟨B, 0, none⟩ = some (.int .i64 F) ∧ w'.cell? ⟨B, 1, none⟩ = some (.int .i64 T))
  have HC : Aside _ := hcell
  have hbn : n * 64 ≤ 160842843834660 := by omega
  clear hcell h hn hB0 hB1 hbig
  have og := own_made0 w 46 4
  go_enter Try.func37, Try.ntmps37
  go_wp2_with fail
  go_loopg [5, 11] n (fun kx v5 vi wr => ∃ (i m : Nat) (out : List En), vi = .int .i64 i ∧ i ≤ n ∧ n - i ≤ kx ∧ m ≤ i ∧ wr.ownsRow w.heap.size 46 4 v5 m (ev out) ∧ Hid (m = out.length ∧ out = (l.take i).filter fun e => !inS F T e.f.t) ∧ Below w.heap.size w wr)
  case atStart => exact ⟨0, 0, [], rfl, by omega, Nat.le_refl _, Nat.le_refl _, og, ⟨rfl, by simp⟩, (Below.refl _ _).alloc (Nat.le_refl _) _⟩
  case round =>
    clear og
    obtain ⟨i, m, out, rfl, hin, hkx, hmi, own, HX, bel⟩ := hrel
    by_cases hlt : i < n
    · have hltz : (i : Int) < (n : Int) := by omega
      have hil : i < l.length := by have := HN.out; omega
      have hr := RdsM.below HH.out bel
      obtain ⟨-, -, -, b, off, rfl, hcl⟩ := hr.at (by omega)
      obtain ⟨q0, q1, q2, q3⟩ := hcl i hil
      have ox := hr.ok l[i] (List.getElem_mem hil)
      have htk : l.take (i + 1) = l.take i ++ [l[i]] := List.take_succ_eq_append_getElem hil
      generalize l[i] = x at *
      obtain ⟨aD, nD, cD, hD⟩ := ox.f.rd.sl
      obtain ⟨aM, nM, cM, hM⟩ := ox.f.rm.sl
      obtain ⟨W, hW⟩ : ∃ W, W = wr.alloc (.cells #[.int .i64 x.f.t, x.f.dv, x.f.mv, .int .u64 x.n] 46) := ⟨_, rfl⟩
      have bW : Below wr.heap.size wr W := by rw [hW]; exact (Below.refl _ _).alloc (Nat.le_refl _) _
      have bwW : Below w.heap.size w W := bel.trans (bW.mono bel.size)
      obtain ⟨s0, s1⟩ := HC.out W bwW
      have kc := without_clo W B F T x.f s0 s1
      have hbox : ∀ w5, Below W.heap.size W w5 → w5.cell? ⟨wr.heap.size, 0, none⟩ = some (.int .i64 x.f.t) ∧ w5.cell? ⟨wr.heap.size, 1, none⟩ = some x.f.dv ∧ w5.cell? ⟨wr.heap.size, 2, none⟩ = some x.f.mv ∧ w5.cell? ⟨wr.heap.size, 3, none⟩ = some (.int .u64 x.n) := fun w5 h5 => by
        have hlt5 : wr.heap.size < W.heap.size := by rw [hW]; simp
        refine ⟨?_, ?_, ?_, ?_⟩ <;> (rw [h5.cell (by exact hlt5), hW]; simp)
      have HBX : Aside _ := hbox
      have HOW : Hid (W.ownsRow w.heap.size 46 4 u5 m (ev out)) := own_below own bW
      obtain ⟨a5, n5, c5, rfl⟩ := own_sl own
      have HBW : Hid (Below w.heap.size w W) := bwW
      have HT : Hid _ := htk
      have HOX : Hid (x.Ok wr) := ox
      have HD : Hid (x.f.dv = .slice aD nD cD ∧ x.f.mv = .slice aM nM cM) := ⟨hD, hM⟩
      have HW : Hid _ := hW
      have HBW2 : Hid (Below wr.heap.size wr W) := bW
      rw [hW, hD, hM] at kc
      rw [hD] at q1
      rw [hM] at q2
      rw [hD, hM] at HW
      obtain ⟨Z, hZ⟩ : ∃ Z, Z = inS F T x.f.t := ⟨_, rfl⟩
      rw [← hZ] at kc
      have HZ : Hid (Z = inS F T x.f.t) := hZ
      clear hZ hbox own bW bwW hW hD hM ox hr hcl htk bel s0 s1
      cases Z with
      | false =>
        go_wp2_with fail
        refine kc.mono ?_
        rintro e w5 ⟨rfl, b5⟩
        rw [← HW.out] at b5
        obtain ⟨y0, y1, y2, y3⟩ := HBX.out w5 b5
        rw [HD.out.1] at y1
        rw [HD.out.2] at y2
        have bw5 : Below w.heap.size w w5 := HBW.out.trans (b5.mono HBW.out.size)
        have ow5 : w5.ownsRow w.heap.size 46 4 (.slice a5 n5 c5) m (ev out) := own_below HOW.out b5
        have rone := one_rds w5 x _ rfl
        rw [HD.out.1, HD.out.2] at rone
        have HR : Hid (RdsK 4 (w5.alloc (.cells #[.int .i64 x.f.t, .slice aD nD cD, .slice aM nM cM, .int .u64 x.n] 46)) (.slice (some ⟨w5.heap.size, 0, none⟩) 1 1) 1 (ev [x])) := rone
        have HOO : Aside (∀ u ∈ ev [x], u.oneCell' = true) := ev_one (w := wr) fun e he => by
          simp only [List.mem_singleton] at he
          subst he
          exact HOX.out
        have HO5 : Hid ((w5.alloc (.cells #[.int .i64 x.f.t, .slice aD nD cD, .slice aM nM cM, .int .u64 x.n] 46)).ownsRow w.heap.size 46 4 (.slice a5 n5 c5) m (ev out)) := ow5.alloc _
        have HB5 : Hid (Below w.heap.size w (w5.alloc (.cells #[.int .i64 x.f.t, .slice aD nD cD, .slice aM nM cM, .int .u64 x.n] 46))) := bw5.alloc bw5.size _
        have hza : m + 1 ≤ maxLen := by unfold maxLen; omega
        have hzb : ((m + 1) + (m + 1) / 4 + 192) * 64 ≤ 281474976710656 := by omega
        have hws : w.heap.size ≤ (w5.alloc (.cells #[.int .i64 x.f.t, .slice aD nD cD, .slice aM nM cM, .int .u64 x.n] 46)).heap.size := HB5.out.size
        clear kc b5 bw5 ow5 rone HOW HBX HW
        go_wp2_with (first
          | (at_builtin; refine wpList_appK rfl _ _ 36 rfl w.heap.size 46 i0 (.agg #[.int .i64 0, .slice none 0 0, .slice none 0 0, .int .u64 0]) 4 64 Try.underlying36 hi hy0 hy1 hy2 rfl (by decide) _ _ _ rfl HO5.out _ _ _ rfl HR.out HOO.out hza hzb hws ?_; intro v7 w7 hown7 hgrow7 hnil7))
        go_roundg (n - (i + 1))
        case measure => omega
        case rel =>
          obtain ⟨x1, x2⟩ := HX.out
          refine ⟨i + 1, m + 1, out ++ [x], by go_num, by omega, Nat.le_refl _, by omega, by rw [ev_app]; exact hown7, ⟨by simp; omega, ?_⟩, HB5.out.grown hgrow7 hws fun k hk => (HO5.out.lt k hk).1⟩
          rw [HT.out, List.filter_append, ← x2]
          simp [← HZ.out]
      | true =>
        go_wp2_with fail
        refine kc.mono ?_
        rintro e w5 ⟨rfl, b5⟩
        rw [← HW.out] at b5
        have HB5 : Hid (Below w.heap.size w w5) := HBW.out.trans (b5.mono HBW.out.size)
        have HO5 : Hid (w5.ownsRow w.heap.size 46 4 (.slice a5 n5 c5) m (ev out)) := own_below HOW.out b5
        clear kc b5 HOW HBX HW
        go_wp2_with fail
        go_roundg (n - (i + 1))
        case measure => omega
        case rel =>
          obtain ⟨x1, x2⟩ := HX.out
          refine ⟨i + 1, m, out, by go_num, by omega, Nat.le_refl _, by omega, HO5.out, ⟨x1, ?_⟩, HB5.out⟩
          rw [HT.out, List.filter_append, ← x2]
          simp [← HZ.out]
    · have hltz : ¬ (i : Int) < (n : Int) := by omega
      obtain ⟨x1, x2⟩ := HX.out
      rw [List.take_of_length_le (by have := HN.out; omega)] at x2
      have hm : RdsM wr u5 out := ⟨by rw [← x1]; exact RdsK.of_own own, fun e he => (HH.out.ok e (by rw [x2] at he; exact (List.mem_filter.1 he).1)).below bel⟩
      have kB := bagOf_any wr u5 out hm (by omega)
      rw [x2] at kB
      obtain ⟨a5, n5, c5, rfl⟩ := own_sl own
      have hfl : (l.filter fun e => !inS F T e.f.t).length ≤ l.length := List.length_filter_le _ _
      have HF : Hid _ := hfl
      have HBel : Hid (Below w.heap.size w wr) := bel
      clear hm own x1 x2 HX bel hfl
      go_wp2_with fail
      refine kB.mono ?_
      rintro e w5 ⟨v5', rfl, l', om, hll, hib, b5⟩
      go_wp2_with fail
      go_ret
      exact ⟨v5', rfl, l', om.mono HBel.out.size, Nat.le_trans hll HF.out, hib, HBel.out.trans (b5.mono HBel.out.size)⟩

set_option maxHeartbeats 800000 in
theorem without_any (w : World) (v : Value) (l : List En) (F T : Int) (h : RdsM w v l) (hbig : l.length * 64 ≤ 160842843834660) :
    Calls Try.prog 24 #[v, .agg #[.int .i64 F, .int .i64 T]] w fun e w' => ∃ v', e = .returned v' ∧ ∃ l', OwnM w' w.heap.size v' l' ∧ l'.length ≤ l.length ∧ IsBag (rows (l.filter fun e => !inS F T e.f.t)) (rows l') ∧ Below w.heap.size w w' := by
  obtain ⟨W, hW⟩ : ∃ W, W = w.alloc (.cells #[.int .i64 F, .int .i64 T] 43) := ⟨_, rfl⟩
  have bW : Below w.heap.size w W := by rw [hW]; exact (Below.refl _ _).alloc (Nat.le_refl _) _
  have kT := without_taken W v l w.heap.size F T (h.below bW) (by rw [hW]; simp) (by rw [hW]; simp) hbig
  obtain ⟨ao, n, cap, rfl⟩ := h.sl
  rw [hW] at kT
  have HW : Hid _ := hW
  have HB : Hid (Below w.heap.size w W) := bW
  clear h hW bW
  go_enter Try.func24, Try.ntmps24
  go_wp2_with fail
  refine kT.mono ?_
  rintro e w5 ⟨v5, rfl, l', om, hll, hib, b5⟩
  rw [← HW.out] at om b5
  go_wp2_with fail
  go_ret
  exact ⟨v5, rfl, l', om.mono HB.out.size, hll, hib, HB.out.trans (b5.mono HB.out.size)⟩
end Go.Proofs.Ytgdeongeonhlpaa
