/- Contract: putIn. -/
import Derived.Test.YtgbmigfamefenaaInG
import Derived.Shelf.SlSorted.Search
import Derived.Ground.SlsoProg
namespace Go.Proofs.Ytgbmigfamefenaa
open Go.Shelf Go.RowKit Go.Maps Go.Sort
set_option linter.unusedVariables false
shelf_lay_g SlLaysO.n16 Slso 16 at Try 57 as srchL

set_option maxRecDepth 100000 in
set_option maxHeartbeats 3200000 in
theorem ptc (bk bb b o n cap i : Nat) (k x : K3) (W : World) (hi : i < n) (hk : BxA W bk 55 #[.int .i64 k.1, .int .i64 k.2.1, .int .i64 k.2.2]) (hv : W.cell? ⟨bb, 0, none⟩ = some (.slice (some ⟨b, o, none⟩) n cap))
    (hx0 : W.cell? ⟨b, o + i * 3, none⟩ = some (.int .i64 x.1)) (hx1 : W.cell? ⟨b, o + i * 3 + 1, none⟩ = some (.int .i64 x.2.1)) (hx2 : W.cell? ⟨b, o + i * 3 + 2, none⟩ = some (.int .i64 x.2.2)) :
    Calls Try.prog 62 (#[.int .i64 i] ++ #[.pointer (some ⟨bk, 0, none⟩), .pointer (some ⟨bb, 0, none⟩)]) W fun e w' => e = .returned (.bool (gaB k x)) ∧ ∃ q os, w' = grow (W.drewN q) os := by
  have mixed : Try.prog.follows .mixedOrders = true := by kernel_rfl
  have k1 : ∀ nq os, _ := fun nq os => grown_at (w := W) (fun w' => goes_any w' k x) nq os
  obtain ⟨a1, a2, a3⟩ := k
  obtain ⟨b1, b2, b3⟩ := x
  obtain ⟨c, hc⟩ : ∃ c, c = gaB (a1, a2, a3) (b1, b2, b3) := ⟨_, rfl⟩
  rw [← hc] at k1 ⊢
  unfold kv at k1
  simp only at k1 hk hx0 hx1 hx2
  have x0 := fun nq os => gro_cell (hk.cell 0 _ rfl) nq os
  have x1 := fun nq os => gro_cell (hk.cell 1 _ rfl) nq os
  have x2 := fun nq os => gro_cell (hk.cell 2 _ rfl) nq os
  have y := fun nq os => gro_cell hv nq os
  have y0 := fun nq os => gro_cell hx0 nq os
  have y1 := fun nq os => gro_cell hx1 nq os
  have y2 := fun nq os => gro_cell hx2 nq os
  have hiz : (i : Int) < (n : Int) := by omega
  clear hk hv hx0 hx1 hx2 hc
  go_enter Try.func62, Try.ntmps62
  go_wp2_with fail
  refine wp_region_quiet_grown (by assumption) (by kernel_rfl) ?_
  repeat (go_big_quiet_step (first | (go_at_call 59; refine Calls.grown_of (k1 _ _))))
  refine wpQuiet_nil ?_
  intro _ hw'
  obtain ⟨⟨nq, osq⟩, hw''⟩ := hw'
  subst hw''
  go_wp2_with fail
  go_ret
  exact ⟨rfl, _, _, rfl⟩
/-- A set behind those that go ahead of it. -/
def ptAt (k : K3) (l : List K3) : Nat := l.countP fun b => !gaB k b
def putK (k : K3) (l : List K3) : List K3 := l.take (ptAt k l) ++ k :: l.drop (ptAt k l)
def Rks (l : List K3) : Prop := l.Pairwise Ahd
theorem ptAt_le (k : K3) (l : List K3) : ptAt k l ≤ l.length := List.countP_le_length
theorem mem_putK (k x : K3) (l : List K3) : x ∈ putK k l ↔ x = k ∨ x ∈ l := by
  unfold putK
  rw [List.mem_append, List.mem_cons]
  have e := List.take_append_drop (ptAt k l) l
  have : x ∈ l ↔ x ∈ l.take (ptAt k l) ∨ x ∈ l.drop (ptAt k l) := by rw [← List.mem_append, e]
  rw [this]
  constructor
  · rintro (h | h | h)
    · exact .inr (.inl h)
    · exact .inl h
    · exact .inr (.inr h)
  · rintro (h | h | h)
    · exact .inr (.inl h)
    · exact .inl h
    · exact .inr (.inr h)
theorem ptAt_split (k : K3) (l : List K3) (h : Rks l) : (∀ b ∈ l.take (ptAt k l), ¬ Ahd k b) ∧ (∀ b ∈ l.drop (ptAt k l), Ahd k b) := by
  induction l with
  | nil => simp
  | cons a l ih =>
    obtain ⟨h1, h2⟩ := List.pairwise_cons.1 h
    obtain ⟨i1, i2⟩ := ih h2
    unfold ptAt at *
    by_cases q : Ahd k a
    · have e0 : List.countP (fun b => !gaB k b) (a :: l) = 0 := by
        rw [List.countP_eq_zero]
        intro b hb
        have : Ahd k b := by
          rcases List.mem_cons.1 hb with r | r
          · rw [r]; exact q
          · exact q.trans (h1 b r)
        rw [ga_iff]
        simp [this]
      rw [e0]
      refine ⟨by simp, fun b hb => ?_⟩
      rcases List.mem_cons.1 hb with r | r
      · rw [r]; exact q
      · exact q.trans (h1 b r)
    · have e1 : List.countP (fun b => !gaB k b) (a :: l) = List.countP (fun b => !gaB k b) l + 1 := by
        rw [List.countP_cons_of_pos]
        rw [ga_iff]
        simp [q]
      rw [e1]
      refine ⟨fun b hb => ?_, i2⟩
      rcases List.mem_cons.1 hb with r | r
      · rw [r]; exact q
      · exact i1 b r
theorem rks_putK (k : K3) (l : List K3) (h : Rks l) (hk : k ∉ l) : Rks (putK k l) := by
  obtain ⟨h1, h2⟩ := ptAt_split k l h
  have e := List.take_append_drop (ptAt k l) l
  have hh : Rks (l.take (ptAt k l) ++ l.drop (ptAt k l)) := by rw [e]; exact h
  obtain ⟨a1, a2, a3⟩ := List.pairwise_append.1 hh
  refine List.pairwise_append.2 ⟨a1, List.pairwise_cons.2 ⟨h2, a2⟩, fun x hx y hy => ?_⟩
  have hxk : Ahd x k := by
    rcases Ahd.total (a := x) (b := k) (fun q => hk (q ▸ List.mem_of_mem_take hx)) with r | r
    · exact r
    · exact absurd r (h1 x hx)
  rcases List.mem_cons.1 hy with r | r
  · rw [r]; exact hxk
  · exact a3 x hx y r
theorem putK_len (k : K3) (l : List K3) : (putK k l).length = l.length + 1 := by
  unfold putK
  have := ptAt_le k l
  simp only [List.length_append, List.length_take, List.length_cons, List.length_drop]
  omega
theorem ptAt_range (k : K3) (l : List K3) : (List.range l.length).countP (fun i => !gaB k (l.getD i (0, 0, 0))) = ptAt k l := by
  unfold ptAt
  have h : l = (List.range l.length).map (fun i => l.getD i (0, 0, 0)) := by
    apply List.ext_getElem
    · simp
    · intro i h1 h2
      simp [List.getD, h1]
  conv => rhs; rw [h, List.countP_map]
  rfl
set_option maxRecDepth 100000 in
set_option maxHeartbeats 3200000 in
theorem putIn_any (w : World) (base : Nat) (v : Value) (l : List K3) (k : K3) (h : RowO w base v l) (hr : Rks l) (hb : base ≤ w.heap.size) (hlen : l.length ≤ 100000) :
    Calls Try.prog 42 #[v, kv k] w fun e w' => Ins w w' base (putK k l) v.ownBlock e := by
  have mixed : Try.prog.follows .mixedOrders = true := by kernel_rfl
  obtain ⟨va, vc, hve, hvc1, hvc2, hvc⟩ := h.rds.at3
  obtain ⟨W0, hW0⟩ : ∃ W0, W0 = (w.alloc (.cells #[v] 52)).alloc (.cells #[.int .i64 k.1, .int .i64 k.2.1, .int .i64 k.2.2] 55) := ⟨_, rfl⟩
  have hs : (w.alloc (.cells #[v] 52)).heap.size = w.heap.size + 1 := by simp
  have hsz : W0.heap.size = w.heap.size + 2 := by rw [hW0]; simp
  have hB0 : Below w.heap.size w W0 := by rw [hW0]; exact ((Below.refl w.heap.size w).alloc (Nat.le_refl _) _).alloc (by rw [hs]; omega) _
  have hbv : BxA W0 w.heap.size 52 #[v] := by
    rw [hW0]
    unfold BxA
    rw [Below.heap_alloc _ _ _ (by rw [hs]; omega)]
    exact BxA.new _ _ _
  have hbk : BxA W0 (w.heap.size + 1) 55 #[.int .i64 k.1, .int .i64 k.2.1, .int .i64 k.2.2] := by
    rw [hW0, ← hs]
    exact BxA.new _ _ _
  have eg : ∀ args w, (callFunc 62 args).run Try.prog w = .ok (.enter 62 args) w := enters_of Try.func62 (by kernel_rfl) rfl
  have hS := Any.sort_Search srchL 62 #[.pointer (some ⟨w.heap.size + 1, 0, none⟩), .pointer (some ⟨w.heap.size, 0, none⟩)] l.length (fun i => gaB k (l.getD i (0, 0, 0))) W0 eg (by omega)
    (fun m os i hi => by
      obtain ⟨b, o, rfl, hcs⟩ := hvc (by omega)
      obtain ⟨q0, q1, q2⟩ := hcs i hi
      have e : l.getD i (0, 0, 0) = l[i] := by simp [List.getD, hi]
      rw [e]
      have up : ∀ {a : Addr} {u : Value}, w.cell? a = some u → (grow (W0.drewN m) os).cell? a = some u := fun hu => gro_cell ((hB0.cell (World.block_lt_of_cell? _ _ hu)).trans hu) m os
      refine ptc (w.heap.size + 1) w.heap.size b o l.length vc i k l[i] _ hi ?_ ?_ (up q0) (up q1) (up q2)
      · unfold BxA
        rw [(gro_below W0 m os).block _ hbk.lt]
        exact hbk
      · rw [← hve]
        exact gro_cell (hbv.cell 0 _ rfl) m os)
    (fun a b hab hbl ha => by
      have ea : l.getD a (0, 0, 0) = l[a] := by simp [List.getD, show a < l.length by omega]
      have eb : l.getD b (0, 0, 0) = l[b] := by simp [List.getD, hbl]
      rw [ea, ga_iff, decide_eq_true_iff] at ha
      rw [eb, ga_iff, decide_eq_true_iff]
      by_cases q : a = b
      · subst q; exact ha
      · exact ha.trans (List.pairwise_iff_getElem.1 hr a b (by omega) hbl (by omega)))
  rw [ptAt_range] at hS
  change Calls Try.prog 57 _ _ _ at hS
  have hat := ptAt_le k l
  have hI : ∀ W1, Below W0.heap.size W0 W1 → Calls Try.prog 63 #[v, .int .i64 (ptAt k l : Int), .slice (some ⟨W1.heap.size, 0, none⟩) 1 1] (W1.alloc (.cells #[.int .i64 k.1, .int .i64 k.2.1, .int .i64 k.2.2] 55)) fun e w' => Ins w w' base (putK k l) v.ownBlock e := fun W1 h1 => by
    have hw1 : Below w.heap.size w W1 := hB0.trans (h1.mono (by omega))
    have hw2 : Below w.heap.size w (W1.alloc (.cells #[.int .i64 k.1, .int .i64 k.2.1, .int .i64 k.2.2] 55)) := hw1.alloc hw1.size _
    refine (ins_any _ base v l (ptAt k l) k W1.heap.size (h.below hw2) hat (BxA.new _ _ _) ?_ (Nat.le_trans hb hw2.size) hlen).mono ?_
    · rcases h with ⟨rfl, rfl⟩ | ⟨g, o, cap, cur, h⟩
      · intro q; cases q
      · rw [h.v]
        intro q
        have hg := (Array.getElem?_eq_some_iff.1 h.blk).1
        have := hw1.size
        injection q with q
        have q' : g = W1.heap.size := q
        omega
    · rintro e w' ⟨⟨v', he, hrow, hnw⟩, hbl, hgr⟩
      refine ⟨⟨v', he, hrow, ?_⟩, (hw2.mono hb).trans hbl, grown_trans (grown_of_below hw2 _) hgr⟩
      rcases hnw with q | ⟨g, q1, q2⟩
      · exact .inl q
      · exact .inr ⟨g, q1, Nat.le_trans hw2.size q2⟩
  have b0 : ∀ q os, (grow (W0.drewN q) os).cell? ⟨w.heap.size, 0, none⟩ = some v := fun q os => gro_cell (hbv.cell 0 _ rfl) q os
  have b1 : W0.cell? ⟨w.heap.size, 0, none⟩ = some v := hbv.cell 0 _ rfl
  have hk0 : ∀ q os, (grow (W0.drewN q) os).cell? ⟨w.heap.size + 1, 0, none⟩ = some (.int .i64 k.1) := fun q os => gro_cell (hbk.cell 0 _ rfl) q os
  have hk1 : ∀ q os, (grow (W0.drewN q) os).cell? ⟨w.heap.size + 1, 1, none⟩ = some (.int .i64 k.2.1) := fun q os => gro_cell (hbk.cell 1 _ rfl) q os
  have hk2 : ∀ q os, (grow (W0.drewN q) os).cell? ⟨w.heap.size + 1, 2, none⟩ = some (.int .i64 k.2.2) := fun q os => gro_cell (hbk.cell 2 _ rfl) q os
  have hlW : w.heap.size + 1 < W0.heap.size := by omega
  obtain ⟨k1, k2, k3⟩ := k
  unfold kv
  simp only at hW0 hS hI hk0 hk1 hk2 ⊢
  obtain ⟨at0, hat0⟩ : ∃ a, a = ptAt (k1, k2, k3) l := ⟨_, rfl⟩
  obtain ⟨K, hK⟩ : ∃ K, K = putK (k1, k2, k3) l := ⟨_, rfl⟩
  obtain ⟨n, hn⟩ : ∃ n, n = l.length := ⟨_, rfl⟩
  rw [← hat0, ← hn] at hS
  rw [← hat0, ← hK] at hI
  rw [← hK]
  rw [← hn] at hve hlen
  have HW := hide hW0
  have HI := hide hI
  subst hve
  clear hW0 hI hvc h hr hat hat0 hK hbv hbk hsz hs hB0 hn
  go_enter Try.func42, Try.ntmps42
  go_wp2_with fail
  rw [← HW.out]
  go_at_call 57
  refine hS.mono ?_
  rintro e w2 ⟨rfl, q, os, rfl⟩
  have b0' := b0 q os
  have hk0' := hk0 q os
  have hk1' := hk1 q os
  have hk2' := hk2 q os
  have HB2 := hide (gro_below W0 q os)
  obtain ⟨W2, hW2⟩ : ∃ W2, W2 = grow (W0.drewN q) os := ⟨_, rfl⟩
  rw [← hW2] at b0' hk0' hk1' hk2' HB2 ⊢
  clear hW2 b0 hk0 hk1 hk2 hS b1
  go_wp2_with fail
  refine (HI.out W2 HB2.out).mono ?_
  rintro e w3 hI3
  have H3 := hide hI3
  obtain ⟨v', rfl, hv'⟩ := hI3.ex
  clear hI3 hv'
  go_wp2_with fail
  go_ret
  exact H3.out
end Go.Proofs.Ytgbmigfamefenaa
