/- The contract of copied. -/
import Derived.Test.YtkoihniggoelnaaHasJ
namespace Go.Proofs.Ytkoihniggoelnaa
open Go.RowKit Go.Sort

theorem own_made0 (w : World) (e k : Nat) : (w.alloc (.cells #[] e)).ownsRow w.heap.size e k (.slice (some ⟨w.heap.size, 0, none⟩) 0 0) 0 [] :=
  World.ownsRow_made w #[] 0 (Nat.le_refl _) (Nat.zero_le _) (by simp)
theorem Rds.k {w : World} {v : Value} {xs : List Value} (h : Rds w v xs) : RdsK 1 w v xs.length xs := by
  obtain ⟨ao, cap, rfl, h1, h2, h3, h4⟩ := h
  exact ⟨ao, cap, rfl, by simp, h1, h2, h3, h4⟩
set_option maxHeartbeats 800000 in
theorem clone_str (w : World) (v : Value) (n : Nat) (xs : List Value) (h : RdsK 1 w v n xs) (h1 : ∀ u ∈ xs, u.oneCell' = true) (hbig : n * 16 ≤ 160842843834660) :
    Calls Try.prog 33 #[v] w fun e w' => ∃ v', e = .returned v' ∧ w'.ownsRow w.heap.size 9 1 v' n xs ∧ Below w.heap.size w w' := by
  obtain ⟨i0, hi, hz0, hz1, hz2⟩ := info_parts Try.info_str
  obtain ⟨ao, n', cap, rfl⟩ : ∃ ao n cap, v = .slice ao n cap := by obtain ⟨ao, cap, rfl, _⟩ := h; exact ⟨_, _, _, rfl⟩
  obtain ⟨rfl, k0, k1, k2, k3, k4⟩ := h.cells (by decide)
  clear k3
  have heq : ∀ (W : World) (a : Option Addr) (n c : Nat), (binOp .eql 28 (.slice a n c) (.slice none 0 0)).run Try.prog W = .ok (.bool a.isNone) W := fun W a n c => Lib.run_eql_slice_nil W 28 _ a n c 0 0 Try.underlying28
  cases ao with
  | none =>
    obtain ⟨rfl, rfl⟩ := k4 rfl
    have hn : xs = [] := List.eq_nil_of_length_eq_zero (by simpa using k0)
    subst hn
    go_enter Try.func33, Try.ntmps33
    go_wp2_with fail
    go_ret
    exact ⟨_, rfl, World.ownsRow_nil _ _ _ _, Below.refl _ _⟩
  | some ad =>
    have ha : Below w.heap.size w (w.alloc (.cells #[] 9)) := (Below.refl _ _).alloc (Nat.le_refl _) _
    have hr := h.below ha
    have HR : Hid (RdsK 1 (w.alloc (.cells #[] 9)) (.slice (some ad) n' cap) n' xs) := hr
    clear h hr k4 k0
    go_enter Try.func33, Try.ntmps33
    go_wp2_with (first
      | (at_builtin; refine wpList_appK rfl _ _ 28 rfl w.heap.size 9 i0 (.string ⟨#[]⟩) 1 16 Try.underlying28 hi hz0 hz1 hz2 rfl (by decide) _ _ _ rfl (own_made0 w 9 1) _ _ _ rfl HR.out h1 (by unfold maxLen at *; omega) (by omega) (by simp) ?_; intro v1 w1 hown1 hgrow1 hnil))
    go_ret
    refine ⟨v1, rfl, ?_, ha.grown hgrow1 (by simp) (fun j hj => (World.ownsRow.lt (own_made0 w 9 1) j hj).1)⟩
    rw [Nat.zero_add, List.nil_append] at hown1
    exact hown1


theorem bel_alloc {V X : World} (h : Below V.heap.size V X) (o : Obj) : Below V.heap.size V (X.alloc o) := h.alloc h.size o
theorem bel_trans {V X Y : World} (h : Below V.heap.size V X) (k : Below X.heap.size X Y) : Below V.heap.size V Y := h.trans (k.mono h.size)
theorem bel_put {B : Nat} {a X : World} (h : Below B a X) (c : Nat) (u : Value) : Below B a (X.setCell ⟨B, c, none⟩ u) := h.setCell (Nat.le_refl _) u
theorem bel2_alloc {B : Nat} {a X : World} (hB : B ≤ a.heap.size) (h : Below B a X) (o : Obj) : Below B a (X.alloc o) := h.alloc (Nat.le_trans hB h.size) o
theorem bel2_trans {B : Nat} {V X Y : World} (hB : B ≤ V.heap.size) (h : Below B V X) (k : Below X.heap.size X Y) : Below B V Y := h.trans (k.mono (Nat.le_trans hB h.size))

set_option maxHeartbeats 1600000 in
theorem copied_any (w : World) (p : Pt) (hp : p.Ok w) (hb : p.ts.length * 16 ≤ 160842843834660) : Calls Try.prog 29 #[.agg #[.int .u64 p.n, .int .i64 p.v, p.tv]] w (Gives p.p0 w) := by
  obtain ⟨W, hW⟩ : ∃ W, W = (w.alloc (.cells #[.int .u64 p.n, .int .i64 p.v, p.tv] 30)).alloc (.cells #[.int .u64 0, .int .i64 0, .slice none 0 0] 30) := ⟨_, rfl⟩
  have gW : Grows w W := by rw [hW]; exact (Grows.alloc _ _).trans (Grows.alloc _ _)
  have hsz : W.heap.size = w.heap.size + 1 + 1 := by rw [hW]; simp
  have hBW : w.heap.size + 1 ≤ W.heap.size := by omega
  have hbx : Box3 W (w.heap.size + 1) (.int .u64 0) (.int .i64 0) (.slice none 0 0) := by rw [hW]; exact Box3.new _ _ _ _ _ _ (by simp)
  have hbp : Box3 W w.heap.size (.int .u64 p.n) (.int .i64 p.v) p.tv := by
    rw [hW]; exact (Box3.new w _ _ _ _ _ rfl).up ((Below.refl _ _).alloc (Nat.le_refl _) _)
  obtain ⟨a1, n1, c1, e1⟩ := hp.rt.sl
  have kC : ∀ X, Below (w.heap.size + 1) W X → Calls Try.prog 33 #[.slice a1 n1 c1] X fun e w' => ∃ v', e = .returned v' ∧ w'.ownsRow X.heap.size 9 1 v' p.ts.length (sv p.ts) ∧ Below X.heap.size X w' := fun X bX => by
    have h1 := (hp.up (gW.below.trans (bX.mono (by omega)))).rt.k
    rw [e1, sv_length] at h1
    exact clone_str X _ _ _ h1 (sv_one _) hb
  rw [e1] at hbp hW ⊢
  have keepS : ∀ X, Below (w.heap.size + 1) W X → (fun w' => Below (w.heap.size + 1) W w' ∧ w'.cell? ⟨w.heap.size, 0, none⟩ = some (.int .u64 p.n) ∧ w'.cell? ⟨w.heap.size, 1, none⟩ = some (.int .i64 p.v) ∧ w'.cell? ⟨w.heap.size, 2, none⟩ = some (.slice a1 n1 c1)) X := fun X bX => ⟨bX, (hbp.upB bX (Nat.lt_succ_self _)).c0, (hbp.upB bX (Nat.lt_succ_self _)).c1, (hbp.upB bX (Nat.lt_succ_self _)).c2⟩
  have HBx : Hid (Box3 W (w.heap.size + 1) (.int .u64 0) (.int .i64 0) (.slice none 0 0)) := hbx
  have HW : Hid _ := hW
  have HGW : Hid (Below w.heap.size w W ∧ W.heap.size = w.heap.size + 1 + 1) := ⟨gW.below, hsz⟩
  clear hp hb e1 gW hsz hbx hbp hW
  go_enter Try.func29, Try.ntmps29
  go_wp2_with fail
  rw [← HW.out]
  go_region_held (fun w' => Below (w.heap.size + 1) W w' ∧ w'.cell? ⟨w.heap.size, 0, none⟩ = some (.int .u64 p.n) ∧ w'.cell? ⟨w.heap.size, 1, none⟩ = some (.int .i64 p.v) ∧ w'.cell? ⟨w.heap.size, 2, none⟩ = some (.slice a1 n1 c1))
    (exact keepS _ (by repeat' (first | with_reducible assumption | with_reducible exact Below.refl _ _ | with_reducible refine Below.drew ?_ | with_reducible refine bel2_alloc hBW ?_ _ | with_reducible refine bel_put ?_ _ _)))
    (first
      | (go_at_call 33; (with_reducible refine (kC W.drew (by repeat' (first | with_reducible assumption | with_reducible exact Below.refl _ _ | with_reducible refine Below.drew ?_ | with_reducible refine bel2_alloc hBW ?_ _ | with_reducible refine bel_put ?_ _ _))).mono ?_); rintro e3 w3 ⟨v3, rfl, o3, b3⟩; have b3W : Below W.heap.size W w3 := bel_trans (Below.drew (Below.refl _ _)) b3; have B3 : Below (w.heap.size + 1) W w3 := b3W.mono hBW; have HO3 : Hid (w3.ownsRow W.heap.size 9 1 v3 p.ts.length (sv p.ts)) := o3; have hb3 := HBx.out.up b3W; obtain ⟨y0, y1, y2, yf⟩ := hb3; have HB3 : Hid (Box3 w3 (w.heap.size + 1) (.int .u64 0) (.int .i64 0) (.slice none 0 0)) := ⟨y0, y1, y2, yf⟩; have HBW3 : Hid (Below W.heap.size W w3) := b3W; obtain ⟨a3, n3, c3, hv3⟩ := own_sl o3; subst hv3; clear o3 b3 b3W))
  all_goals
    go_wp2_with fail
    obtain ⟨Y, hY⟩ : ∃ Y, Y = put3 w3 (w.heap.size + 1) (.int .u64 p.n) (.int .i64 p.v) (.slice a3 n3 c3) := ⟨_, rfl⟩
    have hb := HB3.out.put (.int .u64 p.n) (.int .i64 p.v) (.slice a3 n3 c3)
    rw [← hY] at hb
    rw [show ((w3.setCell ⟨w.heap.size + 1, 0, none⟩ (.int .u64 p.n)).setCell ⟨w.heap.size + 1, 1, none⟩ (.int .i64 p.v)).setCell ⟨w.heap.size + 1, 2, none⟩ (.slice a3 n3 c3) = Y from hY.symm]
    obtain ⟨z0, z1, z2, -⟩ := hb
    have HY : Hid _ := hY
    clear hY y0 y1 y2 yf
    refine bodyPost_ret (by simp [results, Try.results29, go_sem, z0, z1, z2]; try rfl) rfl ?_
    obtain ⟨g1, g2⟩ := HGW.out
    refine ⟨⟨p.n, p.v, .slice a3 n3 c3, p.ts⟩, rfl, ⟨?_⟩, (New.of HO3.out).mono (by omega), rfl, ?_⟩
    · rw [HY.out]
      exact rds_of_own (own_put3 HO3.out (by omega) _ _ _)
    · rw [HY.out]
      exact below_put3 (g1.trans (HBW3.out.mono (by omega))) (by omega) _ _ _
end Go.Proofs.Ytkoihniggoelnaa
