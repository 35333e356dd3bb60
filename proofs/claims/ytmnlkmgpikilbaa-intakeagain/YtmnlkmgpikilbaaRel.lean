/- Release; Behind of what is gone. -/
import Derived.Test.YtmnlkmgpikilbaaBts
namespace Go.Proofs.Ytmnlkmgpikilbaa
open Go.RowKit Go.Maps Go.Sort
set_option linter.unusedVariables false

theorem RowG.box {w : World} {base e k n g q c : Nat} {v : Value} {xs : List Value} (h : RowG w base e k v n xs) (hv : v = .slice (some ⟨g, q, none⟩) n c) : ∃ cur, BxA w g e cur ∧ n ≤ c ∧ c ≤ maxLen ∧ q + c * k ≤ cur.size ∧ (cur.toList.drop q).take (n * k) = xs ∧ base ≤ g := by
  rcases h.2 with ⟨h1, _⟩ | ⟨g', o, cap, cur, h1, h2, h3, h4, h5, h6, h7⟩
  · rw [hv] at h1; cases h1
  · rw [hv] at h1
    injection h1 with e1 e2 e3
    injection e1 with e1
    injection e1 with e4 e5 e6
    subst e4
    subst e5
    subst e3
    exact ⟨cur, h3, h4, h5, h6, h7, h2⟩
/-- v[1:]. -/
theorem RowG.tail {w' : World} {base e n g q c k : Nat} {cur cur' : Array Value} {xs ys : List Value} (hb : BxA w' g e cur') (hsz : cur'.size = cur.size) (hdr : cur'.toList.drop (q + k) = cur.toList.drop (q + k)) (h4 : n + 1 ≤ c) (h5 : c ≤ maxLen) (h6 : q + c * k ≤ cur.size) (h7 : (cur.toList.drop q).take ((n + 1) * k) = xs ++ ys) (hx : xs.length = k) (hbase : base ≤ g) (hys : ys.length = n * k) :
    RowG w' base e k (.slice (some ⟨g, q + k, none⟩) n (c - 1)) n ys := by
  refine ⟨hys, .inr ⟨g, q + k, c - 1, cur', rfl, hbase, hb, by omega, by omega, ?_, ?_⟩⟩
  · rw [hsz]
    have : c * k = k + (c - 1) * k := by
      obtain ⟨c', rfl⟩ : ∃ c', c = c' + 1 := ⟨c - 1, by omega⟩
      rw [Nat.add_mul, Nat.one_mul, Nat.add_sub_cancel, Nat.add_comm]
    omega
  · rw [hdr]
    have e1 := congrArg (List.drop k) h7
    rw [List.drop_left' hx, List.drop_take, List.drop_drop, show (n + 1) * k - k = n * k by rw [Nat.add_mul, Nat.one_mul, Nat.add_sub_cancel]] at e1
    exact e1
theorem drop_set {cur : Array Value} {i m : Nat} {v : Value} (h : i < m) : (cur.setIfInBounds i v).toList.drop m = cur.toList.drop m := by
  rw [Array.toList_setIfInBounds, List.drop_set_of_lt h]
/-- Five cells stored anew. -/
def w5 (w : World) (g q : Nat) : World := ((((w.setCell ⟨g, q, none⟩ (.int .i64 0)).setCell ⟨g, q + 1, none⟩ (.int .u64 0)).setCell ⟨g, q + 2, none⟩ (.int .u64 0)).setCell ⟨g, q + 3, none⟩ (.slice none 0 0)).setCell ⟨g, q + 4, none⟩ (.slice none 0 0)
theorem w5_fr (w : World) (g q : Nat) : Fr (fun i => i = g) w (w5 w g q) := Fr.of_grown (grown_trans (grown_trans (grown_trans (grown_trans grown_setCell grown_setCell) grown_setCell) grown_setCell) grown_setCell) fun j hj => .inl (by injection hj with hj; exact hj.symm)
theorem w5_box {w : World} {g q : Nat} {e : TypeId} {cur : Array Value} (h : BxA w g e cur) : ∃ cur', BxA (w5 w g q) g e cur' ∧ cur'.size = cur.size ∧ cur'.toList.drop (q + 5) = cur.toList.drop (q + 5) := by
  refine ⟨_, ((((h.set q _).set (q + 1) _).set (q + 2) _).set (q + 3) _).set (q + 4) _, by simp, ?_⟩
  rw [drop_set (by omega), drop_set (by omega), drop_set (by omega), drop_set (by omega), drop_set (by omega)]
theorem InZ.popped {w : World} {x : Nat} {F : Nat → Prop} {l : Int} {sv : Value} {p : Kp} {Z : List Kp} {o : Kp} (h : InZ w x F l sv (p :: Z) o) {g q n c : Nat} (hs : sv = .slice (some ⟨g, q, none⟩) n c) {wa : World} (hf : Fr (fun i => i = g) w wa) {v' : Value} (hv : RowG wa 0 80 5 v' Z.length (kpcs Z)) (hvb : v'.ownBlock = some g) :
    InZ (wa.setCell ⟨x, 3, none⟩ v') x F l v' Z o ∧ Fr F w (wa.setCell ⟨x, 3, none⟩ v') := by
  have hgx : g ≠ x := fun e => h.s.ne h.b (by decide) (by rw [hs]; exact congrArg some e)
  have hb : BxA wa x 84 (ixc l sv o) := by have := h.b; unfold BxA at this ⊢; rw [hf.block x h.b.lt fun e => hgx e.symm]; exact this
  have hFg : F g := h.fs g (by rw [hs]; rfl)
  have hk : ∀ r, r < w.heap.size → r ≠ g → r ≠ x → (wa.setCell ⟨x, 3, none⟩ v').heap[r]? = w.heap[r]? := fun r h1 h2 h3 => by rw [heap_setCell_other _ _ _ _ h3]; exact hf.block r h1 h2
  have hko : ∀ k, KOk w F k → KOk (wa.setCell ⟨x, 3, none⟩ v') F k := fun k hk' => hk'.frame fun r hr => hk r (World.ownsRow.lt hk'.o r hr).2 (fun e => h.s.diff hk'.o (by decide) g (by rw [hs]; rfl) (e ▸ hr)) fun e => row_ne hk'.o h.b (by decide) (e ▸ hr)
  refine ⟨⟨hb.set 3 v', h.f, hv.blk fun r hr => heap_setCell_other _ _ _ _ (fun e => ?_), fun r hr => ?_, fun k hk' => hko k (h.e k (List.mem_cons_of_mem _ hk')), hko o h.eo, fun k hk' => h.ap k (List.mem_cons_of_mem _ hk'), fun i hi => ?_⟩, ?_⟩
  · rw [hvb] at hr; injection hr with hr; exact hgx (hr.trans e)
  · rw [hvb] at hr; injection hr with hr; exact hr ▸ hFg
  · have := h.lt i hi; have := hf.size; simp; omega
  · exact ((Fr.refl F w).trans hf fun i _ e => by subst e; exact hFg).trans (Fr.of_grown (F := fun i => i = x) grown_setCell fun j hj => .inl (by injection hj with hj; exact hj.symm)) fun i _ e => by subst e; exact h.f
set_option maxRecDepth 20000 in
set_option maxHeartbeats 4000000 in
theorem release_ok (w : World) (x : Nat) (F : Nat → Prop) (l : Int) (sv : Value) (p : Kp) (Z : List Kp) (o : Kp) (h : InZ w x F l sv (p :: Z) o) (hl : 1 ≤ l) (num : Int) (hn : num = p.num) (hlt : p.num < o.num) :
    Calls Try.prog 22 #[.pointer (some ⟨x, 0, none⟩), .int .i64 num] w fun e w' => e = .returned (.int .i64 0) ∧ (∃ sv', InZ w' x F l sv' Z o) ∧ Fr F w w' := by
  have kM := made_any _ x F l sv (p :: Z) o h hl
  obtain ⟨g, q, c, hs, hc, hcm, k0, k1, k2, k3, k4⟩ := kept_cells h.s 0 (by simp)
  obtain ⟨cur, hbx, j1, j2, j3, j4, j5⟩ := h.s.box hs
  obtain ⟨N, hN⟩ : ∃ N, N = (p :: Z).length := ⟨_, rfl⟩
  have hN0 : 0 < N := by rw [hN]; simp
  rw [← hN] at hs hc
  have k0' : w.cell? ⟨g, q, none⟩ = some (.int .i64 num) := by rw [hn]; simpa using k0
  have k1' : w.cell? ⟨g, q + 1, none⟩ = some (.int .u64 (p.fr : Int)) := by simpa using k1
  have k2' : w.cell? ⟨g, q + 2, none⟩ = some (.int .u64 (p.up : Int)) := by simpa using k2
  have k3' : w.cell? ⟨g, q + 3, none⟩ = some nl := by simpa using k3
  have k4' : w.cell? ⟨g, q + 4, none⟩ = some p.v := by simpa using k4
  have c3 : w.cell? ⟨x, 3, none⟩ = some (.slice (some ⟨g, q, none⟩) N c) := by rw [← hs]; exact h.b.cell 3 _ rfl
  have c4 : w.cell? ⟨x, 4, none⟩ = some (.int .i64 o.num) := h.b.cell 4 _ rfl
  have hgx : g ≠ x := fun e => h.s.ne h.b (by decide) (by rw [hs]; exact congrArg some e)
  have hNz : ¬ (N : Int) = 0 := by omega
  have hNp : (0 : Int) < (N : Int) := by omega
  have hNl : (1 : Int) ≤ (N : Int) := by omega
  have hcl : (N : Int) ≤ (c : Int) := by omega
  have hno : ¬ o.num ≤ num := by omega
  have hNb : ((N : Int) == 0) = false := by simpa using hNz
  have hnb : decide (o.num ≤ num) = false := decide_eq_false hno
  have f0 := hbx.free q
  have f1 := hbx.free (q + 1)
  have f2 := hbx.free (q + 2)
  have f3 := hbx.free (q + 3)
  have f4 := hbx.free (q + 4)
  have fx := h.b.free 3
  have H := hide h
  have HS := hide hs
  have HN := hide hN
  have HBX := hide hbx
  have HGX := hide hgx
  clear h hs hN hbx k0 k1 k2 k3 k4 hn hlt
  have hNZ : N = Z.length + 1 := by rw [HN.out]; simp
  have HNZ := hide hNZ
  clear hNZ
  by_cases hc1 : c = 1
  · subst hc1
    go_enter Try.func22, Try.ntmps22
    go_wp2_with (go_at_call 33; refine kM.mono ?_; rintro e w1 ⟨he1, hw1⟩; have hw1 := hw1.symm; subst he1; subst hw1)
    all_goals (
      go_ret
      obtain ⟨cur', b1, b2, b3⟩ := w5_box (q := q) HBX.out
      have hZ : Z = [] := List.eq_nil_of_length_eq_zero (by have := HNZ.out; omega)
      have hr : RowG (w5 w g q) 0 80 5 (.slice (some ⟨g, q, none⟩) 0 0) Z.length (kpcs Z) := by
        subst hZ
        exact ⟨rfl, .inr ⟨g, q, 0, cur', rfl, Nat.zero_le _, b1, Nat.le_refl _, Nat.zero_le _, by omega, by simp [kpcs]⟩⟩
      have hp := H.out.popped HS.out (w5_fr w g q) hr rfl
      unfold w5 at hp
      refine ⟨rfl, ⟨.slice (some ⟨g, q, none⟩) 0 0, ?_⟩, ?_⟩
      · with_reducible exact hp.1
      · with_reducible exact hp.2)
  · have hc2 : 1 < c := by omega
    have hc3 : (1 : Int) < (c : Int) := by omega
    go_enter Try.func22, Try.ntmps22
    go_wp2_with (go_at_call 33; refine kM.mono ?_; rintro e w1 ⟨he1, hw1⟩; have hw1 := hw1.symm; subst he1; subst hw1)
    all_goals (
      go_ret
      obtain ⟨cur', b1, b2, b3⟩ := w5_box (q := q) HBX.out
      have hr : RowG (w5 w g q) 0 80 5 (.slice (some ⟨g, q + 5, none⟩) (N - 1) (c - 1)) Z.length (kpcs Z) := by
        rw [show N - 1 = Z.length by have := HNZ.out; omega]
        exact RowG.tail (xs := kpc p) b1 b2 b3 (by have := HNZ.out; omega) j2 j3 j4 rfl j5 (kpcs_length Z)
      have hp := H.out.popped HS.out (w5_fr w g q) hr rfl
      unfold w5 at hp
      refine ⟨rfl, ⟨.slice (some ⟨g, q + 5, none⟩) (N - 1) (c - 1), ?_⟩, ?_⟩
      · with_reducible exact hp.1
      · with_reducible exact hp.2)
end Go.Proofs.Ytmnlkmgpikilbaa
