/- What FactOwn's helper writes: only what is the rows' own. -/
import Derived.Test.YtgdeongeonhlpaaJoin
import Derived.OneCell
namespace Go.Proofs.Ytgdeongeonhlpaa
open Go.RowKit Go.Sort

/-- Only cells of the blocks from lo to below hi were written. -/
inductive Wrote (lo hi : Nat) (w : World) : World → Prop
  | refl : Wrote lo hi w w
  | step {w' : World} {B o : Nat} (h : Wrote lo hi w w') (h1 : lo ≤ B) (h2 : B < hi) (u : Value) : Wrote lo hi w (w'.setCell ⟨B, o, none⟩ u)
theorem Wrote.bel {lo hi : Nat} {w w' : World} (h : Wrote lo hi w w') : Below lo w w' := by
  induction h with
  | refl => exact Below.refl _ _
  | step _ h1 _ u ih => exact ih.setCell h1 u
theorem Wrote.own {lo hi : Nat} {w w' : World} (h : Wrote lo hi w w') {base e k n : Nat} {v : Value} {xs : List Value} (ho : w.ownsRow base e k v n xs) (hb : hi ≤ base) : w'.ownsRow base e k v n xs := by
  induction h with
  | refl => exact ho
  | step _ _ h2 u ih => exact set_kept ih (by omega) u
theorem Wrote.ownM {lo hi : Nat} {w w' : World} (h : Wrote lo hi w w') {base : Nat} {v : Value} {l : List En} (ho : OwnM w base v l) (hb : hi ≤ base) : OwnM w' base v l :=
  ⟨h.own ho.own hb, fun e he => ⟨h.own (ho.each e he).od hb, h.own (ho.each e he).om hb, (ho.each e he).bd, (ho.each e he).bm⟩, ho.few⟩

theorem own_set_any {w : World} {base e k n : Nat} {v : Value} {xs : List Value} (h : w.ownsRow base e k v n xs) (B o : Nat) (u : Value) : ∃ xs', (w.setCell ⟨B, o, none⟩ u).ownsRow base e k v n xs' ∧ (v.ownBlock ≠ some B → xs' = xs) := by
  by_cases hb : v.ownBlock = some B
  · rcases h.2 with ⟨rfl, _⟩ | ⟨g, cap, cur, rfl, _⟩
    · simp [Value.ownBlock] at hb
    · simp only [Value.ownBlock, Option.some.injEq] at hb
      subst hb
      exact ⟨_, (h.stored o u).1, fun hne => absurd rfl hne⟩
  · exact ⟨xs, ownsRow_setCell_other h hb u, fun _ => rfl⟩
theorem own_at {w : World} {lo e k n : Nat} {v : Value} {xs : List Value} (h : w.ownsRow lo e k v n xs) (h0 : 0 < n) : ∃ g cap, v = .slice (some ⟨g, 0, none⟩) n cap ∧ lo ≤ g ∧ n ≤ cap ∧ cap ≤ maxLen := by
  rcases h.2 with ⟨rfl, h1⟩ | ⟨g, cap, cur, rfl, h1, _, h2, h3, _⟩
  · omega
  · exact ⟨g, cap, rfl, h1, h2, h3⟩

/-- Rows whose Dims and Meas are these slices, all of them the blocks' own. -/
structure Shp (w : World) (lo hi : Nat) (v : Value) (l : List (Value × Value)) : Prop where
  own : ∃ xs, w.ownsRow lo 46 4 v l.length xs ∧ ∀ i (h : i < l.length), xs[i * 4 + 1]? = some l[i].1 ∧ xs[i * 4 + 2]? = some l[i].2
  top : ∀ j, v.ownBlock = some j → j < hi
  ds : ∀ p ∈ l, (∃ n xs, w.ownsRow lo 9 1 p.1 n xs) ∧ ∀ j, p.1.ownBlock = some j → j < hi
  ms : ∀ p ∈ l, (∃ n xs, w.ownsRow lo 2 1 p.2 n xs) ∧ ∀ j, p.2.ownBlock = some j → j < hi
theorem Shp.set {w : World} {lo hi : Nat} {v : Value} {l : List (Value × Value)} (h : Shp w lo hi v l) (B o : Nat) (u : Value)
    (hv : v.ownBlock = some B → o % 4 = 0 ∨ o % 4 = 3) : Shp (w.setCell ⟨B, o, none⟩ u) lo hi v l := by
  obtain ⟨xs, h1, h2⟩ := h.own
  refine ⟨?_, h.top, fun p hp => ⟨?_, (h.ds p hp).2⟩, fun p hp => ⟨?_, (h.ms p hp).2⟩⟩
  · by_cases hb : v.ownBlock = some B
    · have ho := hv hb
      rcases h1.2 with ⟨rfl, _⟩ | ⟨g, cap, cur, rfl, _⟩
      · simp [Value.ownBlock] at hb
      · simp only [Value.ownBlock, Option.some.injEq] at hb
        subst hb
        refine ⟨_, (h1.stored o u).1, fun i hi => ?_⟩
        rw [List.getElem?_set_ne (by omega), List.getElem?_set_ne (by omega)]
        exact h2 i hi
    · exact ⟨xs, ownsRow_setCell_other h1 hb u, h2⟩
  · obtain ⟨n, ys, k1⟩ := (h.ds p hp).1
    obtain ⟨ys', k2, _⟩ := own_set_any k1 B o u
    exact ⟨n, ys', k2⟩
  · obtain ⟨n, ys, k1⟩ := (h.ms p hp).1
    obtain ⟨ys', k2, _⟩ := own_set_any k1 B o u
    exact ⟨n, ys', k2⟩
theorem Shp.of_own {w : World} {lo hi : Nat} {v : Value} {l : List En} (h : OwnM w lo v l) (hs : w.heap.size ≤ hi) : Shp w lo hi v (l.map fun e => (e.f.dv, e.f.mv)) := by
  refine ⟨⟨ev l, by rw [List.length_map]; exact h.own, fun i hi => ?_⟩, fun j hj => Nat.lt_of_lt_of_le (h.own.lt j hj).2 hs, fun p hp => ?_, fun p hp => ?_⟩
  · have hi' : i < l.length := by simpa using hi
    have g1 := ev_get l i 1 hi' (by omega)
    have g2 := ev_get l i 2 hi' (by omega)
    rw [List.getElem_map]
    exact ⟨by rw [g1]; rfl, by rw [g2]; rfl⟩
  · obtain ⟨e, he, rfl⟩ := List.mem_map.1 hp
    exact ⟨⟨_, _, (h.each e he).od⟩, fun j hj => Nat.lt_of_lt_of_le ((h.each e he).od.lt j hj).2 hs⟩
  · obtain ⟨e, he, rfl⟩ := List.mem_map.1 hp
    exact ⟨⟨_, _, (h.each e he).om⟩, fun j hj => Nat.lt_of_lt_of_le ((h.each e he).om.lt j hj).2 hs⟩
theorem Shp.below {w w' : World} {lo hi : Nat} {v : Value} {l : List (Value × Value)} (h : Shp w lo hi v l) (hb : Below w.heap.size w w') : Shp w' lo hi v l := by
  obtain ⟨xs, h1, h2⟩ := h.own
  refine ⟨⟨xs, own_below h1 hb, h2⟩, h.top, fun p hp => ⟨?_, (h.ds p hp).2⟩, fun p hp => ⟨?_, (h.ms p hp).2⟩⟩
  · obtain ⟨n, ys, k1⟩ := (h.ds p hp).1
    exact ⟨n, ys, own_below k1 hb⟩
  · obtain ⟨n, ys, k1⟩ := (h.ms p hp).1
    exact ⟨n, ys, own_below k1 hb⟩
theorem Wrote.shp {lo hi lo' hi' : Nat} {w w' : World} (h : Wrote lo hi w w') {v : Value} {l : List (Value × Value)} (hs : Shp w lo' hi' v l) (hb : hi ≤ lo') : Shp w' lo' hi' v l := by
  obtain ⟨xs, h1, h2⟩ := hs.own
  refine ⟨⟨xs, h.own h1 hb, h2⟩, hs.top, fun p hp => ⟨?_, (hs.ds p hp).2⟩, fun p hp => ⟨?_, (hs.ms p hp).2⟩⟩
  · obtain ⟨n, ys, k1⟩ := (hs.ds p hp).1
    exact ⟨n, ys, h.own k1 hb⟩
  · obtain ⟨n, ys, k1⟩ := (hs.ms p hp).1
    exact ⟨n, ys, h.own k1 hb⟩
/-- What one row holds, and where it may be written. -/
theorem Shp.row {w : World} {lo hi : Nat} {v : Value} {l : List (Value × Value)} (h : Shp w lo hi v l) {i : Nat} (hil : i < l.length) :
    ∃ g cap, v = .slice (some ⟨g, 0, none⟩) l.length cap ∧ lo ≤ g ∧ g < hi ∧ l.length ≤ cap ∧ cap ≤ maxLen ∧ w.cell? ⟨g, i * 4 + 1, none⟩ = some l[i].1 ∧ w.cell? ⟨g, i * 4 + 2, none⟩ = some l[i].2 ∧ (∃ u, w.cell? ⟨g, i * 4, none⟩ = some u) ∧ (∃ u, w.cell? ⟨g, i * 4 + 3, none⟩ = some u) ∧ ∀ o, w.frozen? ⟨g, o, none⟩ = false := by
  obtain ⟨xs, h1, h2⟩ := h.own
  obtain ⟨g, cap, rfl, k1, k2, k3⟩ := own_at h1 (by omega)
  have hx : xs.length = l.length * 4 := h1.1
  refine ⟨g, cap, rfl, k1, h.top g rfl, k2, k3, ?_, ?_, ?_, ?_, fun o => h1.frozenAt o⟩
  · rw [h1.cellAt _ (by omega)]; exact (h2 i hil).1
  · rw [h1.cellAt _ (by omega)]; exact (h2 i hil).2
  · rw [h1.cellAt _ (by omega)]; exact ⟨_, List.getElem?_eq_getElem (by omega)⟩
  · rw [h1.cellAt _ (by omega)]; exact ⟨_, List.getElem?_eq_getElem (by omega)⟩
/-- One cell of a row's Dims, or Meas. -/
theorem own_cell {w : World} {lo e n : Nat} {v : Value} {xs : List Value} (h : w.ownsRow lo e 1 v n xs) {k : Nat} (hk : k < n) : ∃ g cap, v = .slice (some ⟨g, 0, none⟩) n cap ∧ lo ≤ g ∧ (∃ u, w.cell? ⟨g, k, none⟩ = some u) ∧ w.frozen? ⟨g, k, none⟩ = false := by
  obtain ⟨g, cap, rfl, k1, _, _⟩ := own_at h (by omega)
  have hx : xs.length = n * 1 := h.1
  refine ⟨g, cap, rfl, k1, ?_, h.frozenAt k⟩
  rw [h.cellAt _ (by omega)]; exact ⟨_, List.getElem?_eq_getElem (by omega)⟩
theorem own_len {w : World} {lo e n : Nat} {v : Value} {xs : List Value} (h : w.ownsRow lo e 1 v n xs) : ∃ a c, v = .slice a n c ∧ n ≤ maxLen := by
  rcases h.2 with ⟨rfl, rfl⟩ | ⟨g, cap, cur, rfl, h1, _, h2, h3, _⟩
  · exact ⟨_, _, rfl, Nat.zero_le _⟩
  · exact ⟨_, _, rfl, Nat.le_trans h2 h3⟩
theorem Shp.dims {w : World} {lo hi : Nat} {v : Value} {l : List (Value × Value)} (h : Shp w lo hi v l) {i : Nat} (hil : i < l.length) {ad : Option Addr} {nd cd k : Nat} (hD : l[i].1 = .slice ad nd cd) (hk : k < nd) :
    ∃ gd, ad = some ⟨gd, 0, none⟩ ∧ lo ≤ gd ∧ gd < hi ∧ (∃ u, w.cell? ⟨gd, k, none⟩ = some u) ∧ w.frozen? ⟨gd, k, none⟩ = false ∧ v.ownBlock ≠ some gd := by
  obtain ⟨⟨n, ys, od⟩, ht⟩ := h.ds l[i] (List.getElem_mem hil)
  obtain ⟨xs, h1, -⟩ := h.own
  obtain ⟨a', c', e1, -⟩ := own_len od
  rw [hD] at e1
  simp only [Value.slice.injEq] at e1
  obtain ⟨rfl, rfl, rfl⟩ := e1
  obtain ⟨gd, cap, e2, k1, k2, k3⟩ := own_cell od hk
  have hap := own_apart h1 od (by decide)
  rw [hD] at e2 ht hap
  simp only [Value.slice.injEq, true_and] at e2
  obtain ⟨rfl, rfl⟩ := e2
  refine ⟨gd, rfl, k1, ht gd rfl, k2, k3, fun e => ?_⟩
  rcases hap with hap | hap
  · rw [e] at hap; cases hap
  · exact hap e
theorem Shp.meas {w : World} {lo hi : Nat} {v : Value} {l : List (Value × Value)} (h : Shp w lo hi v l) {i : Nat} (hil : i < l.length) {ad : Option Addr} {nd cd k : Nat} (hD : l[i].2 = .slice ad nd cd) (hk : k < nd) :
    ∃ gd, ad = some ⟨gd, 0, none⟩ ∧ lo ≤ gd ∧ gd < hi ∧ (∃ u, w.cell? ⟨gd, k, none⟩ = some u) ∧ w.frozen? ⟨gd, k, none⟩ = false ∧ v.ownBlock ≠ some gd := by
  obtain ⟨⟨n, ys, od⟩, ht⟩ := h.ms l[i] (List.getElem_mem hil)
  obtain ⟨xs, h1, -⟩ := h.own
  obtain ⟨a', c', e1, -⟩ := own_len od
  rw [hD] at e1
  simp only [Value.slice.injEq] at e1
  obtain ⟨rfl, rfl, rfl⟩ := e1
  obtain ⟨gd, cap, e2, k1, k2, k3⟩ := own_cell od hk
  have hap := own_apart h1 od (by decide)
  rw [hD] at e2 ht hap
  simp only [Value.slice.injEq, true_and] at e2
  obtain ⟨rfl, rfl⟩ := e2
  refine ⟨gd, rfl, k1, ht gd rfl, k2, k3, fun e => ?_⟩
  rcases hap with hap | hap
  · rw [e] at hap; cases hap
  · exact hap e

set_option maxHeartbeats 8000000 in
theorem spoil_any (w : World) (lo hi : Nat) (v : Value) (l : List (Value × Value)) (h : Shp w lo hi v l) :
    Calls Try.prog 26 #[v] w fun e w' => e = .returned (.tuple #[]) ∧ Wrote lo hi w w' := by
  obtain ⟨xs, h1, -⟩ := h.own
  have hlen : ∃ a c, v = .slice a l.length c ∧ l.length ≤ maxLen := by
    rcases h1.2 with ⟨rfl, h0⟩ | ⟨g, cap, cur, rfl, _, _, k2, k3, _⟩
    · rw [h0]; exact ⟨_, _, rfl, Nat.zero_le _⟩
    · exact ⟨_, _, rfl, Nat.le_trans k2 k3⟩
  obtain ⟨a, c, rfl, hmax⟩ := hlen
  unfold maxLen at hmax
  obtain ⟨n, hn⟩ : ∃ n, n = l.length := ⟨_, rfl⟩
  have HN : Hid (n = l.length) := hn
  rw [← hn] at hmax h ⊢
  have HS : Hid (Shp w lo hi (.slice a n c) l) := h
  clear h h1 hn xs
  go_enter Try.func26, Try.ntmps26
  go_wp2_with fail
  go_loopg [2] n (fun kx v2 wr => ∃ i : Nat, v2 = .int .i64 i ∧ i ≤ n ∧ n - i ≤ kx ∧ Hid (Shp wr lo hi (.slice a n c) l) ∧ Hid (Wrote lo hi w wr))
  case atStart => exact ⟨0, rfl, by omega, Nat.le_refl _, HS, Wrote.refl⟩
  case round =>
    obtain ⟨i, rfl, hi', hkx, HSh, HWr⟩ := hrel
    by_cases hlt : i < n
    · have hltz : (i : Int) < (n : Int) := by omega
      have hil : i < l.length := by have := HN.out; omega
      obtain ⟨g, cap, he, g1, g2, g3, g4, q1, q2, -, -, -⟩ := HSh.out.row hil
      obtain ⟨⟨nd, ys, od⟩, hdt⟩ := HSh.out.ds l[i] (List.getElem_mem hil)
      obtain ⟨⟨nm, zs, om⟩, hmt⟩ := HSh.out.ms l[i] (List.getElem_mem hil)
      obtain ⟨ad, cd, hD, hdm⟩ := own_len od
      obtain ⟨am, cm, hM, hmm⟩ := own_len om
      unfold maxLen at hdm hmm
      have HE : Hid (l[i].1 = .slice ad nd cd ∧ l[i].2 = .slice am nm cm) := ⟨hD, hM⟩
      simp only [Value.slice.injEq] at he
      obtain ⟨rfl, -, rfl⟩ := he
      have HG : Hid (lo ≤ g ∧ g < hi) := ⟨g1, g2⟩
      clear od om hD hM hdt hmt ys zs g1 g2 g3 g4 q1 q2
      go_wp2_with fail
      go_loopg [3] nd (fun kx v3 wr => ∃ k : Nat, v3 = .int .i64 k ∧ k ≤ nd ∧ nd - k ≤ kx ∧ Hid (Shp wr lo hi (.slice (some ⟨g, 0, none⟩) n c) l) ∧ Hid (Wrote lo hi w wr))
      case atStart => exact ⟨0, rfl, by omega, Nat.le_refl _, HSh, HWr⟩
      case round =>
        clear HSh HWr
        obtain ⟨k, rfl, hk, hky, HSh, HWr⟩ := hrel
        obtain ⟨g', cap', he, -, -, -, -, q1, q2, ⟨z0, q0⟩, ⟨z3, q3⟩, qf⟩ := HSh.out.row hil
        simp only [Value.slice.injEq, Option.some.injEq, Addr.mk.injEq, and_true] at he
        obtain ⟨rfl, -, rfl⟩ := he
        rw [HE.out.1] at q1
        rw [HE.out.2] at q2
        by_cases hkl : k < nd
        · have hklz : (k : Int) < (nd : Int) := by omega
          obtain ⟨gd, rfl, d1, d2, ⟨zd, qd⟩, qdf, hvn⟩ := HSh.out.dims hil HE.out.1 hkl
          have HD : Hid (lo ≤ gd ∧ gd < hi ∧ Value.ownBlock (.slice (some ⟨g, 0, none⟩) n c) ≠ some gd) := ⟨d1, d2, hvn⟩
          clear d1 d2 hvn q0 q3
          go_wp2_with fail
          go_roundg (nd - (k + 1))
          case measure => omega
          case rel => exact ⟨k + 1, by go_num, by omega, Nat.le_refl _, HSh.out.set _ _ _ fun e => absurd e HD.out.2.2, HWr.out.step HD.out.1 HD.out.2.1 _⟩
        · have hklz : ¬ (k : Int) < (nd : Int) := by omega
          go_wp2_with fail
          clear q0 q1 q2 q3 qf
          go_loopg [4] nm (fun kx v4 wr => ∃ k : Nat, v4 = .int .i64 k ∧ k ≤ nm ∧ nm - k ≤ kx ∧ Hid (Shp wr lo hi (.slice (some ⟨g, 0, none⟩) n c) l) ∧ Hid (Wrote lo hi w wr))
          case atStart => exact ⟨0, rfl, by omega, Nat.le_refl _, HSh, HWr⟩
          case round =>
            clear HSh HWr
            obtain ⟨k, rfl, hk, hky, HSh, HWr⟩ := hrel
            obtain ⟨g', cap', he, -, -, -, -, q1, q2, ⟨z0, q0⟩, ⟨z3, q3⟩, qf⟩ := HSh.out.row hil
            simp only [Value.slice.injEq, Option.some.injEq, Addr.mk.injEq, and_true] at he
            obtain ⟨rfl, -, rfl⟩ := he
            rw [HE.out.1] at q1
            rw [HE.out.2] at q2
            by_cases hkl : k < nm
            · have hklz : (k : Int) < (nm : Int) := by omega
              obtain ⟨gd, rfl, d1, d2, ⟨zd, qd⟩, qdf, hvn⟩ := HSh.out.meas hil HE.out.2 hkl
              have HD : Hid (lo ≤ gd ∧ gd < hi ∧ Value.ownBlock (.slice (some ⟨g, 0, none⟩) n c) ≠ some gd) := ⟨d1, d2, hvn⟩
              clear d1 d2 hvn q0 q3
              go_wp2_with fail
              go_roundg (nm - (k + 1))
              case measure => omega
              case rel => exact ⟨k + 1, by go_num, by omega, Nat.le_refl _, HSh.out.set _ _ _ fun e => absurd e HD.out.2.2, HWr.out.step HD.out.1 HD.out.2.1 _⟩
            · have hklz : ¬ (k : Int) < (nm : Int) := by omega
              have q0' : (wr.setCell ⟨g, i * 4 + 3, none⟩ (.int .u64 7)).cell? ⟨g, i * 4, none⟩ = some z0 := by rw [← q0]; exact World.cell?_setCell_other _ _ _ _ (fun e => by have h := congrArg Addr.off e; simp only at h; omega)
              go_wp2_with fail
              go_roundg (n - (i + 1))
              case measure => omega
              case rel =>
                refine ⟨i + 1, by go_num, by omega, Nat.le_refl _, (HSh.out.set _ _ _ fun _ => by omega).set _ _ _ fun _ => by omega, (HWr.out.step HG.out.1 HG.out.2 _).step HG.out.1 HG.out.2 _⟩
    · have hltz : ¬ (i : Int) < (n : Int) := by omega
      go_wp2_with fail
      go_end0
      exact ⟨rfl, HWr.out⟩
end Go.Proofs.Ytgdeongeonhlpaa
