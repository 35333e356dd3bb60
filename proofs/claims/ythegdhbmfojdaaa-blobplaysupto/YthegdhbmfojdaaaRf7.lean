/- The reference's disk: put. -/
import Derived.Test.YthegdhbmfojdaaaRf6
import Derived.Deep.RegionLaw
import Derived.Laws.Cover1
namespace Go.Proofs.Ythegdhbmfojdaaa
open Go.RowKit Go.Maps Go.Sort
set_option linter.unusedVariables false

/-- One more file, behind all others. -/
theorem RZ.snoc {w w1 : World} {r N : Nat} {F : Nat → Prop} {s : RSt} {Lv v4 : Value} {Z : List RE} {x : RE} (h : RZ w r F N s Lv Z) (hg : w.grownBy w1 Lv.ownBlock) (ho : w1.ownsRow 0 79 3 v4 (Z.length + 1) (rcs Z ++ rcs [x])) (hv : v4.ownBlock = Lv.ownBlock ∨ ∃ g, v4.ownBlock = some g ∧ w.heap.size ≤ g) (hx : Owns w1 0 x.v x.bs) (hx1 : x.sy ≤ x.bs.length) (hxn : x.bs.length ≤ N) (hxa : ∀ y ∈ Z, ∀ c, y.v.ownBlock = some c → x.v.ownBlock ≠ some c) (hfew : Z.length < 1000) (hob : ∀ y ∈ Z, ∀ b, y.v.ownBlock = some b → Lv.ownBlock ≠ some b) (hrl : Lv.ownBlock ≠ some r) :
    RZ (w1.setCell ⟨r, 0, none⟩ v4) r (fun j => (F j ∨ x.v.ownBlock = some j) ∨ v4.ownBlock = some j) N { s with fs := s.fs ++ [x.fl] } v4 (Z ++ [x]) := by
  have hsz := hg.size
  have b1 : BxA w1 r 38 #[Lv, .bool s.off, .int .i64 (s.n : Int), .int .i64 s.at_, .int .i64 s.part] := by
    have := h.b
    unfold BxA at this ⊢
    rw [hg.block r (h.lt r h.f) fun q => hrl q.symm]
    exact this
  have hne : ∀ j, j ≠ r → (w1.setCell ⟨r, 0, none⟩ v4).heap[j]? = w1.heap[j]? := fun j hj => Below.heap_setCell _ _ _ _ hj
  have key : ∀ (e k n : Nat) (u : Value) (xs : List Value), e ≠ 38 → w1.ownsRow 0 e k u n xs → ∀ b, u.ownBlock = some b → b ≠ r := fun e k n u xs he hu b hk q => by
    subst q
    rcases hu.2 with ⟨q, _⟩ | ⟨g', c', cur, q, q2, q3, _⟩
    · rw [q] at hk; cases hk
    · rw [q] at hk
      injection hk with hk
      have hb' : g' = b := hk
      rw [hb'] at q3
      have q1 := b1
      unfold BxA at q1
      rw [q3] at q1
      simp only [Option.some.injEq, Obj.cells.injEq] at q1
      exact he q1.2.1
  have hyo : ∀ y ∈ Z, Owns w1 0 y.v y.bs := fun y hy => owns_block (h.e y hy).1 fun b hb => hg.block b (h.lt b ((h.e y hy).2.1 b hb)) fun q => hob y hy b hb q.symm
  refine ⟨BxA.set b1 0 v4, .inl (.inl h.f), ?_, fun b q => .inr q, fun y hy => ?_, ?_, ?_, fun y hy => ?_, by rw [List.length_append]; simp; omega, h.nn, fun j hj => ?_⟩
  · rw [List.length_append, rcs_append]
    exact rowk_block ho fun b q => hne b (key 79 3 _ v4 _ (by decide) ho b q)
  · rcases List.mem_append.1 hy with hy | hy
    · have q := hyo y hy
      exact ⟨owns_block q fun b hb => hne b (key 5 1 _ y.v _ (by decide) q b hb), fun b hb => .inl (.inl ((h.e y hy).2.1 b hb)), (h.e y hy).2.2⟩
    · simp only [List.mem_singleton] at hy
      subst hy
      exact ⟨owns_block hx fun b hb => hne b (key 5 1 _ y.v _ (by decide) hx b hb), fun b hb => .inl (.inr hb), hx1⟩
  · rw [List.pairwise_append]
    refine ⟨h.ap, by simp, fun a ha b hb => ?_⟩
    simp only [List.mem_singleton] at hb
    subst hb
    exact hxa a ha
  · rw [List.map_append, h.fs]
    rfl
  · rcases List.mem_append.1 hy with hy | hy
    · exact h.nb y hy
    · simp only [List.mem_singleton] at hy
      subst hy
      exact hxn
  · have hs : (w1.setCell ⟨r, 0, none⟩ v4).heap.size = w1.heap.size := by simp
    rw [hs]
    rcases hj with (hj | hj) | hj
    · exact Nat.lt_of_lt_of_le (h.lt j hj) hsz
    · exact (own_lt hx j hj).2
    · exact (own_lt ho j hj).2
def swp (Z : List RE) (i : Nat) (hi : i + 1 < Z.length) : List RE := (Z.set i Z[i + 1]).set (i + 1) Z[i]
theorem rcs_swp (Z : List RE) (i : Nat) (hi : i + 1 < Z.length) : rcs (swp Z i hi) = ((((((rcs Z).set ((i + 1) * 3) (.string ⟨Z[i].nm.toArray⟩)).set ((i + 1) * 3 + 1) Z[i].v).set ((i + 1) * 3 + 2) (.int .i64 (Z[i].sy : Int))).set (i * 3) (.string ⟨Z[i + 1].nm.toArray⟩)).set (i * 3 + 1) Z[i + 1].v).set (i * 3 + 2) (.int .i64 (Z[i + 1].sy : Int)) := by
  induction Z generalizing i with
  | nil => simp at hi
  | cons e Z ih =>
    cases i with
    | zero =>
      cases Z with
      | nil => simp at hi
      | cons f Z => rfl
    | succ i =>
      have hi' : i + 1 < Z.length := by simpa using hi
      have h := ih i hi'
      have hl : e.cs.length = 3 := rfl
      have e1 : swp (e :: Z) (i + 1) hi = e :: swp Z i hi' := rfl
      rw [e1]
      show e.cs ++ rcs (swp Z i hi') = _
      rw [h]
      show e.cs ++ _ = ((((((e.cs ++ rcs Z).set ((i + 1 + 1) * 3) _).set ((i + 1 + 1) * 3 + 1) _).set ((i + 1 + 1) * 3 + 2) _).set ((i + 1) * 3) _).set ((i + 1) * 3 + 1) _).set ((i + 1) * 3 + 2) _
      repeat rw [List.set_append_right _ _ (by rw [hl]; omega)]
      rw [hl, show (i + 1 + 1) * 3 - 3 = (i + 1) * 3 by omega, show (i + 1 + 1) * 3 + 1 - 3 = (i + 1) * 3 + 1 by omega, show (i + 1 + 1) * 3 + 2 - 3 = (i + 1) * 3 + 2 by omega, show (i + 1) * 3 - 3 = i * 3 by omega, show (i + 1) * 3 + 1 - 3 = i * 3 + 1 by omega, show (i + 1) * 3 + 2 - 3 = i * 3 + 2 by omega]
      rfl
theorem swp_perm (Z : List RE) (i : Nat) (hi : i + 1 < Z.length) : (swp Z i hi).Perm Z := by
  induction Z generalizing i with
  | nil => simp at hi
  | cons e Z ih =>
    cases i with
    | zero =>
      cases Z with
      | nil => simp at hi
      | cons f Z => exact List.Perm.swap _ _ _
    | succ i => exact (ih i (by simpa using hi)).cons _
theorem RZ.lob {w : World} {r N : Nat} {F : Nat → Prop} {s : RSt} {Lv : Value} {Z : List RE} (h : RZ w r F N s Lv Z) {u : Value} {l : Str} (hu : Owns w 0 u l) (b : Nat) (hb : u.ownBlock = some b) : Lv.ownBlock ≠ some b := fun q => by
  rcases h.lo.2 with ⟨q0, _⟩ | ⟨g', c', cur, q0, q2, q3, _⟩
  · rw [q0] at q; cases q
  · rw [q0] at q
    injection q with q
    have hg' : g' = b := q
    rcases hu.2 with ⟨q', _⟩ | ⟨g2, c2, cur2, q', _, q4, _⟩
    · rw [q'] at hb; cases hb
    · rw [q'] at hb
      injection hb with hb
      have hb' : g2 = b := hb
      rw [hb', ← hg', q3] at q4
      simp at q4
/-- The row of files holds the same files in another order. -/
theorem RZ.perm {w w1 : World} {r N g n cap : Nat} {F : Nat → Prop} {s : RSt} {Y Y' : List RE} (h : RZ w r F N s (.slice (some ⟨g, 0, none⟩) n cap) Y) (hp : Y'.Perm Y) (hf : Fr (fun j => j = g) w w1) (ho : w1.ownsRow 0 79 3 (.slice (some ⟨g, 0, none⟩) n cap) Y'.length (rcs Y')) : RZ w1 r F N { s with fs := Y'.map RE.fl } (.slice (some ⟨g, 0, none⟩) n cap) Y' := by
  have hne : ∀ j, F j → j ≠ g → w1.heap[j]? = w.heap[j]? := fun j hj q => hf.block j (h.lt j hj) q
  refine ⟨?_, h.f, ho, h.fl, fun x hx => ?_, ?_, rfl, fun x hx => h.nb x (hp.mem_iff.1 hx), by rw [hp.length_eq]; exact h.few, h.nn, fun j hj => Nat.lt_of_lt_of_le (h.lt j hj) hf.size⟩
  · have := h.b
    unfold BxA at this ⊢
    rw [hne r h.f h.rg]
    exact this
  · have hx' := hp.mem_iff.1 hx
    exact ⟨owns_block (h.e x hx').1 fun b hb => hne b ((h.e x hx').2.1 b hb) fun q => by
      have := h.lob (h.e x hx').1 b hb
      rw [q] at this
      exact this rfl, (h.e x hx').2⟩
  · exact (hp.pairwise_iff (fun {a b} q c hc q2 => q c q2 hc)).2 h.ap
theorem swp_mid (A B : List RE) (e f : RE) (h : A.length + 1 < (A ++ e :: f :: B).length) : swp (A ++ e :: f :: B) A.length h = A ++ f :: e :: B := by
  induction A with
  | nil => rfl
  | cons a A ih =>
    have h' : A.length + 1 < (A ++ e :: f :: B).length := by simp
    show a :: swp (A ++ e :: f :: B) A.length h' = _
    rw [ih h']
    rfl
theorem swp_eq {Y A B : List RE} {e f : RE} {k : Nat} (h : Y = A ++ e :: f :: B) (hk : k = A.length) (hi : k + 1 < Y.length) : swp Y k hi = A ++ f :: e :: B := by
  subst h hk
  exact swp_mid A B e f hi
theorem lit3 (w : World) (a b c : Value) (t : TypeId) : RdsK 3 (w.alloc (.cells #[a, b, c] t)) (.slice (some ⟨w.heap.size, 0, none⟩) 1 1) 1 [a, b, c] := by
  refine ⟨some ⟨w.heap.size, 0, none⟩, 1, rfl, rfl, Nat.le_refl _, by unfold maxLen; omega, (fun q => by cases q), ?_⟩
  rintro ad ⟨rfl⟩ j u hj
  have hb : BxA (w.alloc (.cells #[a, b, c] t)) w.heap.size t #[a, b, c] := BxA.new _ _ _
  rw [Addr.add_lit]
  have hj3 : j < 3 := (List.getElem?_eq_some_iff.1 hj).1
  have : j = 0 ∨ j = 1 ∨ j = 2 := by omega
  rcases this with rfl | rfl | rfl
  · cases hj; exact BxA.cell hb 0 _ rfl
  · cases hj; exact BxA.cell hb 1 _ rfl
  · cases hj; exact BxA.cell hb 2 _ rfl
theorem RZ.lr {w : World} {r N : Nat} {F : Nat → Prop} {s : RSt} {Lv : Value} {Z : List RE} (h : RZ w r F N s Lv Z) : Lv.ownBlock ≠ some r := fun q => by
  rcases h.lo.2 with ⟨q0, _⟩ | ⟨g', c', cur, q0, q2, q3, _⟩
  · rw [q0] at q; cases q
  · rw [q0] at q
    injection q with q
    have hg' : g' = r := q
    have q1 := h.b
    unfold BxA at q1
    rw [← hg', q3] at q1
    simp at q1
theorem put_box {w W w4 : World} {r N n cap : Nat} {F : Nat → Prop} {s : RSt} {a : Option Addr} {Z : List RE} (h : RZ w r F N s (.slice a Z.length cap) Z) (hn : n = Z.length) (hb : RowKit.Below w.heap.size w W) (hg : W.grownBy w4 (Value.ownBlock (.slice a n cap))) : BxA w4 r 38 #[.slice a n cap, .bool s.off, .int .i64 (s.n : Int), .int .i64 s.at_, .int .i64 s.part] := by
  subst hn
  have hr := h.lt r h.f
  have := h.b
  unfold BxA at this ⊢
  rw [hg.block r (Nat.lt_of_lt_of_le hr hb.size) (fun q => h.lr q.symm), hb.block r hr]
  exact this
set_option maxRecDepth 100000 in
set_option maxHeartbeats 3200000 in
theorem refput_any (w : World) (r N : Nat) (F : Nat → Prop) (s : RSt) (Lv : Value) (Z : List RE) (x : RE) (hz : RZ w r F N s Lv Z) (hx : Owns w 0 x.v x.bs) (hx1 : x.sy ≤ x.bs.length) (hxn : x.bs.length ≤ N) (hxa : ∀ y ∈ Z, ∀ c, y.v.ownBlock = some c → x.v.ownBlock ≠ some c) (hfew : Z.length < 1000) :
    Calls Try.prog 72 #[.pointer (some ⟨r, 0, none⟩), .agg #[.string ⟨x.nm.toArray⟩, x.v, .int .i64 (x.sy : Int)]] w fun e w' => e = .returned (.tuple #[]) ∧ ∃ Lv' A B, Z = A ++ B ∧ (∀ b ∈ B, x.nm < b.nm) ∧ (∀ a, A.getLast? = some a → ¬ x.nm < a.nm) ∧ RZ w' r (fun j => (F j ∨ x.v.ownBlock = some j) ∨ Lv'.ownBlock = some j) N { s with fs := (A ++ x :: B).map RE.fl } Lv' (A ++ x :: B) ∧ (∀ j, Lv'.ownBlock = some j → F j ∨ w.heap.size ≤ j) ∧ Fr F w w' := by
  have mixed : Try.prog.follows .mixedOrders = true := by kernel_rfl
  obtain ⟨i0, hi0, hz0, hz1, hz2⟩ := info_parts Try.info_file
  have HZ : Hid (RZ w r F N s Lv Z) := hz
  have HX : Hid (Owns w 0 x.v x.bs) := hx
  have HXA : Hid (∀ y ∈ Z, ∀ c, y.v.ownBlock = some c → x.v.ownBlock ≠ some c) := hxa
  have HX1 : Hid (x.sy ≤ x.bs.length ∧ x.bs.length ≤ N ∧ Z.length < 1000) := ⟨hx1, hxn, hfew⟩
  obtain ⟨a, cap, rfl, hc1, hc2, -⟩ := hz.cells
  obtain ⟨xnm, xv, xbs, xsy⟩ := x
  simp only at hx hx1 hxn hxa
  obtain ⟨xa, xc, rfl⟩ : ∃ a c, xv = .slice a xbs.length c := by obtain ⟨a, c, e, _⟩ := hx.reads; exact ⟨_, _, e⟩
  have b0 : w.cell? ⟨r, 0, none⟩ = some (.slice a Z.length cap) := BxA.cell hz.b 0 _ rfl
  have bf := BxA.free hz.b 0
  obtain ⟨n, hn⟩ : ∃ n, n = Z.length := ⟨_, rfl⟩
  have HN : Hid (n = Z.length) := hn
  rw [← hn] at b0 hc1 hfew
  obtain ⟨W1, hW1⟩ : ∃ W, W = w.alloc (.cells #[.string ⟨xnm.toArray⟩, .slice xa xbs.length xc, .int .i64 (xsy : Int)] 79) := ⟨_, rfl⟩
  have B1 : RowKit.Below w.heap.size w W1 := by rw [hW1]; exact (RowKit.Below.refl _ _).alloc (Nat.le_refl _) _
  have c0 : W1.cell? ⟨r, 0, none⟩ = some (.slice a n cap) := by rw [B1.cell (World.block_lt_of_cell? _ _ b0), b0]
  have f0 : W1.frozen? ⟨r, 0, none⟩ = false := by rw [B1.frozen (World.block_lt_of_cell? _ _ b0)]; exact bf
  have HBX : Hid (BxA W1 w.heap.size 79 #[.string ⟨xnm.toArray⟩, .slice xa xbs.length xc, .int .i64 (xsy : Int)]) := by apply hide; rw [hW1]; exact BxA.new _ _ _
  have t0 := BxA.cell HBX.out 0 _ rfl
  have t1 := BxA.cell HBX.out 1 _ rfl
  have t2 := BxA.cell HBX.out 2 _ rfl
  unfold maxLen at hc2
  clear hz hx hxa hn b0 bf
  go_enter Try.func72, Try.ntmps72
  go_wp2_with fail
  rw [← hW1]
  have HW1 : Hid (W1 = _) := hW1
  have HB1 : Hid (RowKit.Below w.heap.size w W1) := B1
  clear hW1 B1
  go_cut [] (fun wA => ∃ (a4 : Option Addr) (c4 : Nat), Hid (RZ wA r (fun j => (F j ∨ Value.ownBlock (.slice xa xbs.length xc) = some j) ∨ Value.ownBlock (.slice a4 (n + 1) c4) = some j) N { s with fs := s.fs ++ [⟨xnm, xbs, xsy⟩] } (.slice a4 (n + 1) c4) (Z ++ [⟨xnm, .slice xa xbs.length xc, xbs, xsy⟩])) ∧ Hid (∀ j, Value.ownBlock (.slice a4 (n + 1) c4) = some j → F j ∨ w.heap.size ≤ j) ∧ Hid (Fr F w wA))
  case first =>
    have HD : Hid (RowKit.Below w.heap.size w (W1.alloc (.cells #[.string ⟨xnm.toArray⟩, .slice xa xbs.length xc, .int .i64 (xsy : Int)] 79)).drew) := (HB1.out.alloc HB1.out.size _).drew
    have HLO : Hid ((W1.alloc (.cells #[.string ⟨xnm.toArray⟩, .slice xa xbs.length xc, .int .i64 (xsy : Int)] 79)).drew.ownsRow 0 79 3 (.slice a n cap) n (rcs Z)) := by
      apply hide
      have := rowk_block HZ.out.lo fun b q => HD.out.block b (HZ.out.lt b (HZ.out.fl b q))
      rw [← HN.out] at this
      exact this
    have HRX : Hid (RdsK 3 (W1.alloc (.cells #[.string ⟨xnm.toArray⟩, .slice xa xbs.length xc, .int .i64 (xsy : Int)] 79)).drew (.slice (some ⟨W1.heap.size, 0, none⟩) 1 1) 1 [.string ⟨xnm.toArray⟩, .slice xa xbs.length xc, .int .i64 (xsy : Int)]) := lit3 W1 _ _ _ _
    have a0 : (W1.alloc (.cells #[.string ⟨xnm.toArray⟩, .slice xa xbs.length xc, .int .i64 (xsy : Int)] 79)).cell? ⟨r, 0, none⟩ = some (.slice a n cap) := by
      have hb : RowKit.Below W1.heap.size W1 (W1.alloc (.cells #[.string ⟨xnm.toArray⟩, .slice xa xbs.length xc, .int .i64 (xsy : Int)] 79)) := (RowKit.Below.refl _ _).alloc (Nat.le_refl _) _
      rw [hb.cell (World.block_lt_of_cell? _ _ c0), c0]
    have HQ : Hid (n + 1 ≤ maxLen ∧ ((n + 1) + (n + 1) / 4 + 192) * 48 ≤ 281474976710656) := by apply hide; unfold maxLen; omega
    go_region_law (refine step_appN rfl (.tmp 10) (.tmp 12) 36 rfl 0 79 i0 _ 3 48 Try.underlying36 hi0 hz0 hz1 hz2 rfl (by decide) (.slice a n cap) n (rcs Z) rfl HLO.out (.slice (some ⟨W1.heap.size, 0, none⟩) 1 1) 1 [.string ⟨xnm.toArray⟩, .slice xa xbs.length xc, .int .i64 (xsy : Int)] rfl HRX.out (fun u hu => by simp only [List.mem_cons, List.not_mem_nil, or_false] at hu; rcases hu with rfl | rfl | rfl <;> rfl) HQ.out.1 HQ.out.2 (Nat.zero_le _) ?_; intro v4 w4 o4 g4 p4; have HO4 : Hid (w4.ownsRow 0 79 3 v4 (n + 1) (rcs Z ++ [.string ⟨xnm.toArray⟩, .slice xa xbs.length xc, .int .i64 (xsy : Int)])) := o4; have HG4 : Hid ((W1.alloc (.cells #[.string ⟨xnm.toArray⟩, .slice xa xbs.length xc, .int .i64 (xsy : Int)] 79)).drew.grownBy w4 (Value.ownBlock (.slice a n cap))) := g4; have HP4 : Hid (v4.ownBlock = Value.ownBlock (.slice a n cap) ∨ ∃ g, v4.ownBlock = some g ∧ (W1.alloc (.cells #[.string ⟨xnm.toArray⟩, .slice xa xbs.length xc, .int .i64 (xsy : Int)] 79)).drew.heap.size ≤ g) := p4; have HR4 : Hid (BxA w4 r 38 #[.slice a n cap, .bool s.off, .int .i64 (s.n : Int), .int .i64 s.at_, .int .i64 s.part]) := put_box HZ.out HN.out HD.out g4; have k0 : w4.cell? ⟨r, 0, none⟩ = some (.slice a n cap) := BxA.cell HR4.out 0 _ rfl; have kf := BxA.free HR4.out 0; obtain ⟨a4, c4, hx4⟩ := own_sl o4; subst hx4; clear o4 g4 p4)
    all_goals
      go_wp2_with fail
      go_meet
      case rel =>
        have hzD : RZ (W1.alloc (.cells #[.string ⟨xnm.toArray⟩, .slice xa xbs.length xc, .int .i64 (xsy : Int)] 79)).drew r F N s (.slice a n cap) Z := by
          have := HZ.out.frame HD.out.size fun j hj => HD.out.block j (HZ.out.lt j hj)
          rw [← HN.out] at this
          exact this
        have hxD := owns_block HX.out fun b hb => HD.out.block b (own_lt HX.out b hb).2
        have hx4 : Owns w4 0 (.slice xa xbs.length xc) xbs := owns_block hxD fun b hb => HG4.out.block b (own_lt hxD b hb).2 fun q => hzD.lob hxD b hb q.symm
        have hR := hzD.snoc (x := ⟨xnm, .slice xa xbs.length xc, xbs, xsy⟩) HG4.out (by rw [← HN.out]; exact HO4.out) HP4.out hx4 HX1.out.1 HX1.out.2.1 HXA.out HX1.out.2.2 (fun y hy b hb => hzD.lob (hzD.e y hy).1 b hb) hzD.lr
        refine ⟨a4, c4, hR, ?_, ?_⟩
        · apply hide
          intro j hj
          rcases HP4.out with q | ⟨g, q, hg⟩
          · rw [q] at hj
            exact .inl (HZ.out.fl j (by rw [← HN.out]; exact hj))
          · rw [q] at hj
            injection hj with hj
            subst hj
            exact .inr (Nat.le_trans HD.out.size hg)
        · apply hide
          have f1 : Fr F w w4 := (Fr.of_below HD.out).trans (Fr.of_grown (F := F) HG4.out fun j hj => .inl (HZ.out.fl j (by rw [← HN.out]; exact hj))) fun _ _ h => h
          exact f1.trans (Fr.of_grown grown_setCell fun j hj => .inl (by cases hj; exact HZ.out.f)) fun _ _ h => h
  case rest =>
    rename World => w5
    obtain ⟨a4, c4, HZ5, HA4, HF5⟩ := hcut
    obtain ⟨X, hXe⟩ : ∃ X : RE, X = ⟨xnm, .slice xa xbs.length xc, xbs, xsy⟩ := ⟨_, rfl⟩
    rw [← hXe] at HZ5
    have HXE : Hid (X = ⟨xnm, .slice xa xbs.length xc, xbs, xsy⟩) := hXe
    have HYL : Hid ((Z ++ [X]).length = n + 1) := by apply hide; rw [List.length_append, ← HN.out]; rfl
    obtain ⟨a4', c4', hLe, hd1, hd2, hds⟩ := HZ5.out.cells
    rw [HYL.out] at hLe hd1
    simp only [Value.slice.injEq, true_and] at hLe
    obtain ⟨rfl, rfl⟩ := hLe
    obtain ⟨g, rfl, -⟩ := hds (by rw [HYL.out]; omega)
    have b5 : w5.cell? ⟨r, 0, none⟩ = some (.slice (some ⟨g, 0, none⟩) (n + 1) c4) := BxA.cell HZ5.out.b 0 _ rfl
    have hnz : ((n + 1 : Nat) : Int) - 1 = (n : Int) := by omega
    unfold maxLen at hd2
    clear hXe hds c0 f0 t0 t1 t2
    obtain ⟨F5, hF5⟩ : ∃ G : Nat → Prop, G = fun j => (F j ∨ Value.ownBlock (.slice xa xbs.length xc) = some j) ∨ Value.ownBlock (.slice (some ⟨g, 0, none⟩) (n + 1) c4) = some j := ⟨_, rfl⟩
    rw [← hF5] at HZ5
    have HF5E : Hid (F5 = _) := hF5
    have HGF : Hid (F g ∨ w.heap.size ≤ g) := HA4.out g rfl
    clear hF5
    go_wp2_with fail
    go_loopg [4, 5] n (fun kx v4 _ wr => ∃ (i : Nat) (Y : List RE), v4 = .int .i64 (i : Int) ∧ i ≤ n ∧ i ≤ kx ∧ Hid (Y = Z.take i ++ X :: Z.drop i) ∧ Hid (RZ wr r F5 N { s with fs := Y.map RE.fl } (.slice (some ⟨g, 0, none⟩) (n + 1) c4) Y) ∧ Hid (∀ b ∈ Z.drop i, X.nm < b.nm) ∧ Hid (Fr F w wr))
    case atStart =>
      have hzl : Z.length ≤ n := by rw [HN.out]; exact Nat.le_refl _
      refine ⟨n, Z ++ [X], by first | rfl | (rw [hnz]) | simp, Nat.le_refl _, Nat.le_refl _, ?_, ?_, ?_, HF5⟩
      · apply hide
        rw [List.take_of_length_le hzl, List.drop_eq_nil_of_le hzl]
      · apply hide
        have := HZ5.out
        have e : s.fs ++ [⟨xnm, xbs, xsy⟩] = (Z ++ [X]).map RE.fl := by rw [List.map_append, HZ.out.fs, HXE.out]; rfl
        rw [e] at this
        exact this
      · apply hide
        rw [List.drop_eq_nil_of_le hzl]
        intro b hb
        cases hb
    case round =>
      obtain ⟨i, Y, rfl, hi, hkx, HY, HR, HD, HFr⟩ := hrel
      have hz := HR.out
      have b0 : wr.cell? ⟨r, 0, none⟩ = some (.slice (some ⟨g, 0, none⟩) (n + 1) c4) := BxA.cell hz.b 0 _ rfl
      have z0 := fun nq os => gro_cell b0 nq os
      have HEND : Hid (∀ (T : World) (A B : List RE), RowKit.Below wr.heap.size wr T → Z = A ++ B → Y = A ++ X :: B → (∀ b ∈ B, X.nm < b.nm) → (∀ a, A.getLast? = some a → ¬ X.nm < a.nm) → ∃ Lv' A B, Z = A ++ B ∧ (∀ b ∈ B, xnm < b.nm) ∧ (∀ a, A.getLast? = some a → ¬ xnm < a.nm) ∧ RZ T r (fun j => (F j ∨ Value.ownBlock (.slice xa xbs.length xc) = some j) ∨ Value.ownBlock Lv' = some j) N { s with fs := (A ++ ⟨xnm, .slice xa xbs.length xc, xbs, xsy⟩ :: B).map RE.fl } Lv' (A ++ ⟨xnm, .slice xa xbs.length xc, xbs, xsy⟩ :: B) ∧ (∀ j, Value.ownBlock Lv' = some j → F j ∨ w.heap.size ≤ j) ∧ Fr F w T) := by
        apply hide
        intro T A B hb e1 e2 h1 h2
        have hT : RZ T r F5 N { s with fs := Y.map RE.fl } (.slice (some ⟨g, 0, none⟩) (n + 1) c4) Y := HR.out.frame hb.size fun j hj => hb.block j (HR.out.lt j hj)
        rw [HF5E.out, e2] at hT
        have hXE := HXE.out
        subst hXE
        exact ⟨_, A, B, e1, h1, h2, hT, HA4.out, HFr.out.trans (Fr.of_below hb) fun _ _ h => h⟩
      by_cases hi0' : i = 0
      · subst hi0'
        have hgz : decide ((0 : Int) < ((0 : Nat) : Int)) = false := by simp
        have hgz2 : decide ((0 : Int) < 0) = false := by simp
        go_wp2_with fail
        refine wp_region_quiet_grown (by assumption) (by kernel_rfl) ?_
        repeat (go_big_quiet_step (fail))
        refine wpQuiet_nil ?_
        intro T hw'
        obtain ⟨⟨nq, osq⟩, hw''⟩ := hw'
        have HBT : Hid (RowKit.Below wr.heap.size wr T) := by apply hide; rw [hw'']; exact gro_below wr nq osq
        clear hw'' z0 b0 hz
        go_wp2_with fail
        go_end0
        exact ⟨rfl, HEND.out T [] Z HBT.out rfl (by have := HY.out; simpa using this) (by have := HD.out; simpa using this) (fun a h => by cases h)⟩
      · obtain ⟨k, rfl⟩ : ∃ k, i = k + 1 := ⟨i - 1, by omega⟩
        have hkz : k < Z.length := by have := HN.out; omega
        have HYL2 : Hid (Y.length = n + 1) := by apply hide; rw [HY.out, List.length_append, List.length_take, List.length_cons, List.length_drop]; have := HN.out; omega
        have hk1 : k < Y.length := by rw [HYL2.out]; omega
        have hk2 : k + 1 < Y.length := by rw [HYL2.out]; omega
        have HY1 : Hid (Y[k]'hk1 = Z[k]'hkz) := by
          apply hide
          have : Y[k]? = (Z.take (k + 1) ++ X :: Z.drop (k + 1))[k]? := by rw [HY.out]
          rw [List.getElem?_eq_getElem hk1, List.getElem?_append_left (by rw [List.length_take]; omega), List.getElem?_take, if_pos (by omega), List.getElem?_eq_getElem hkz] at this
          simpa using this
        have HY2 : Hid (Y[k + 1]'hk2 = X) := by
          apply hide
          have : Y[k + 1]? = (Z.take (k + 1) ++ X :: Z.drop (k + 1))[k + 1]? := by rw [HY.out]
          rw [List.getElem?_eq_getElem hk2, List.getElem?_append_right (by rw [List.length_take]; omega), List.length_take, Nat.min_eq_left (by omega), Nat.sub_self] at this
          simpa using this
        obtain ⟨ga, gc, hge, -, -, hgs⟩ := hz.cells
        obtain ⟨g2, hg2, hgx⟩ := hgs (by omega)
        rw [HYL2.out] at hge
        simp only [Value.slice.injEq, true_and] at hge
        obtain ⟨hge1, -⟩ := hge
        rw [← hge1] at hg2
        simp only [Option.some.injEq, Addr.mk.injEq, and_true] at hg2
        subst hg2
        obtain ⟨p0, p1, p2, pf⟩ := hgx k hk1
        obtain ⟨q0, q1, q2, qf⟩ := hgx (k + 1) hk2
        rw [HY1.out] at p0 p1 p2
        rw [HY2.out] at q0 q1 q2
        have HLZ : Hid (Z[k]'hkz ∈ Z) := List.getElem_mem hkz
        have HDK : Hid (Z.drop k = Z[k]'hkz :: Z.drop (k + 1)) := List.drop_eq_getElem_cons hkz
        have HGL : Hid ((Z.take (k + 1)).getLast? = some (Z[k]'hkz)) := by apply hide; rw [List.take_succ_eq_append_getElem hkz, List.getLast?_concat]
        obtain ⟨E, hE⟩ : ∃ E, E = Z[k]'hkz := ⟨_, rfl⟩
        rw [← hE] at p0 p1 p2 HLZ HDK HGL HY1
        have HEO : Hid (∃ a c, E.v = .slice a E.bs.length c) := by
          apply hide
          obtain ⟨a, c, e, _⟩ := (HZ.out.e E HLZ.out).1.reads
          exact ⟨a, c, e⟩
        have HXO : Hid (∃ a c, X.v = .slice a X.bs.length c) := by apply hide; rw [HXE.out]; exact ⟨_, _, rfl⟩
        have hsub : ((k + 1 : Nat) : Int) - 1 = (k : Int) := by omega
        have HWW : Hid ((wrap64 (((k + 1 : Nat) : Int) - 1) = (k : Int) ∧ IntKind.i64.wrap (((k + 1 : Nat) : Int) - 1) = (k : Int)) ∧ (wrap64 (k : Int) = (k : Int) ∧ IntKind.i64.wrap (k : Int) = (k : Int)) ∧ decide ((0 : Int) < ((k + 1 : Nat) : Int)) = true ∧ decide ((0 : Int) < (k : Int) + 1) = true) := by
          apply hide
          refine ⟨⟨?_, ?_⟩, ⟨?_, ?_⟩, decide_eq_true (by omega), decide_eq_true (by omega)⟩
          · rw [← IntWalk.i64_left, IntKind.wrap_i64]; omega
          · rw [IntKind.wrap_i64]; omega
          · rw [← IntWalk.i64_left, IntKind.wrap_i64]; omega
          · rw [IntKind.wrap_i64]; omega
        obtain ⟨enm, ev, ebs, esy⟩ := E
        obtain ⟨ea, ec, hev⟩ := HEO.out
        simp only at hev
        subst hev
        have HXV := HXO.out
        obtain ⟨ya, yc, hyv⟩ := HXV
        obtain ⟨ynm, yv, ybs, ysy⟩ := X
        simp only at hyv
        subst hyv
        simp only at p0 p1 p2 q0 q1 q2
        have hki : (k : Int) < ((n + 1 : Nat) : Int) := by omega
        have hki2 : ((k + 1 : Nat) : Int) < ((n + 1 : Nat) : Int) := by omega
        have z1 := fun nq os => gro_cell p0 nq os
        have z2 := fun nq os => gro_cell q0 nq os
        have HPC : Hid ((wr.cell? ⟨g, k * 3 + 1, none⟩ = some (.slice ea ebs.length ec) ∧ wr.cell? ⟨g, k * 3 + 2, none⟩ = some (.int .i64 (esy : Int)) ∧ ∀ c, wr.frozen? ⟨g, k * 3 + c, none⟩ = false) ∧ wr.cell? ⟨g, (k + 1) * 3 + 1, none⟩ = some (.slice ya ybs.length yc) ∧ wr.cell? ⟨g, (k + 1) * 3 + 2, none⟩ = some (.int .i64 (ysy : Int)) ∧ ∀ c, wr.frozen? ⟨g, (k + 1) * 3 + c, none⟩ = false) := ⟨⟨p1, p2, pf⟩, q1, q2, qf⟩
        clear hE hgs hgx hge1 hsub hi0' p1 p2 pf q1 q2 qf
        by_cases hlt : ynm < enm
        · have hb1 : Op.bytesLess enm ynm = false := by rw [Go.Proofs.bytesLess_eq]; exact decide_eq_false fun q => List.lt_irrefl _ (List.lt_trans hlt q)
          have hb2 : (enm == ynm) = false := by rw [beq_eq_false_iff_ne]; intro q; rw [q] at hlt; exact List.lt_irrefl _ hlt
          have hb3 : Op.bytesLess (⟨enm.toArray⟩ : ByteArray).toList (⟨ynm.toArray⟩ : ByteArray).toList = false := by rw [str_toList, str_toList]; exact hb1
          have hb4 : ((⟨enm.toArray⟩ : ByteArray).toList == (⟨ynm.toArray⟩ : ByteArray).toList) = false := by rw [str_toList, str_toList]; exact hb2
          have HLT : Hid (ynm < enm) := hlt
          clear hlt
          go_wp2_with fail
          obtain ⟨⟨hw1, hw2⟩, ⟨hw3, hw4⟩, hgz, hgz2⟩ := HWW.out
          refine wp_region_quiet_grown (by assumption) (by kernel_rfl) ?_
          iterate 9 (go_big_quiet_step (fail))
          clear hw1 hw2 hw3 hw4
          repeat (go_big_quiet_step (fail))
          refine wpQuiet_nil ?_
          intro T hw'
          obtain ⟨⟨nq, osq⟩, hw''⟩ := hw'
          have HBT : Hid (RowKit.Below wr.heap.size wr T) := by apply hide; rw [hw'']; exact gro_below wr nq osq
          have hcT : ∀ {a : Addr} {u : Value}, wr.cell? a = some u → T.cell? a = some u := fun h => by rw [HBT.out.cell (World.block_lt_of_cell? _ _ h), h]
          obtain ⟨⟨p1, p2, pf⟩, q1, q2, qf⟩ := HPC.out
          have HTC : Hid ((T.cell? ⟨r, 0, none⟩ = some (.slice (some ⟨g, 0, none⟩) (n + 1) c4) ∧ T.cell? ⟨g, k * 3, none⟩ = some (.string ⟨enm.toArray⟩) ∧ T.cell? ⟨g, k * 3 + 1, none⟩ = some (.slice ea ebs.length ec) ∧ T.cell? ⟨g, k * 3 + 2, none⟩ = some (.int .i64 (esy : Int))) ∧ T.cell? ⟨g, (k + 1) * 3, none⟩ = some (.string ⟨ynm.toArray⟩) ∧ T.cell? ⟨g, (k + 1) * 3 + 1, none⟩ = some (.slice ya ybs.length yc) ∧ T.cell? ⟨g, (k + 1) * 3 + 2, none⟩ = some (.int .i64 (ysy : Int))) := ⟨⟨hcT b0, hcT p0, hcT p1, hcT p2⟩, hcT q0, hcT q1, hcT q2⟩
          have HTF : Hid (∀ c, T.frozen? ⟨g, k * 3 + c, none⟩ = false ∧ T.frozen? ⟨g, (k + 1) * 3 + c, none⟩ = false) := fun c => ⟨by rw [HBT.out.frozen (p := ⟨g, k * 3 + c, none⟩) (by have q := World.block_lt_of_cell? _ _ p0; exact q)]; exact pf c, by rw [HBT.out.frozen (p := ⟨g, (k + 1) * 3 + c, none⟩) (by have q := World.block_lt_of_cell? _ _ p0; exact q)]; exact qf c⟩
          clear hw'' z0 z1 z2 b0 hz hgz hgz2 hcT p0 p1 p2 pf q0 q1 q2 qf hb1 hb2 hb3 hb4
          obtain ⟨⟨c0, c1, c2, c3⟩, d1, d2, d3⟩ := HTC.out
          go_upto_region 6 with (first | (refine wpList_storeN rfl 79 (.tmp 5) (.tmp 52) rfl T #[.string ⟨#[]⟩, .slice none 0 0, .int .i64 0] #[.string ⟨ynm.toArray⟩, .slice ya ybs.length yc, .int .i64 (ysy : Int)] rfl rfl rfl (by kernel_rfl) rfl rfl ?_))
          obtain ⟨W6, hW6⟩ : ∃ W, W = T.alloc (.cells #[.string ⟨ynm.toArray⟩, .slice ya ybs.length yc, .int .i64 (ysy : Int)] 79) := ⟨_, rfl⟩
          rw [← hW6]
          have B6 : RowKit.Below T.heap.size T W6 := by rw [hW6]; exact (RowKit.Below.refl _ _).alloc (Nat.le_refl _) _
          have HX6 : Hid (BxA W6 T.heap.size 79 #[.string ⟨ynm.toArray⟩, .slice ya ybs.length yc, .int .i64 (ysy : Int)]) := by apply hide; rw [hW6]; exact BxA.new _ _ _
          have hc6 : ∀ {a : Addr} {u : Value}, T.cell? a = some u → W6.cell? a = some u := fun h => by rw [B6.cell (World.block_lt_of_cell? _ _ h), h]
          have HB6 : Hid (RowKit.Below wr.heap.size wr W6) := HBT.out.trans (B6.mono HBT.out.size)
          have HGT : Hid (g < T.heap.size ∧ r < T.heap.size) := ⟨World.block_lt_of_cell? _ _ c1, World.block_lt_of_cell? _ _ c0⟩
          have e0 := hc6 c0
          have e1 := hc6 c1
          have e2 := hc6 c2
          have e3 := hc6 c3
          have g1 := hc6 d1
          have g2 := hc6 d2
          have g3 := hc6 d3
          have HF6 : Hid (∀ c, W6.frozen? ⟨g, k * 3 + c, none⟩ = false ∧ W6.frozen? ⟨g, (k + 1) * 3 + c, none⟩ = false) := fun c => ⟨by rw [B6.frozen (p := ⟨g, k * 3 + c, none⟩) (by have q := World.block_lt_of_cell? _ _ c1; exact q)]; exact (HTF.out c).1, by rw [B6.frozen (p := ⟨g, (k + 1) * 3 + c, none⟩) (by have q := World.block_lt_of_cell? _ _ c1; exact q)]; exact (HTF.out c).2⟩
          have z0 := fun nq os => gro_cell e0 nq os
          have z1 := fun nq os => gro_cell e1 nq os
          have z2 := fun nq os => gro_cell e2 nq os
          have z3 := fun nq os => gro_cell e3 nq os
          clear hc6 c0 c1 c2 c3 d1 d2 d3 hW6 B6
          go_wp2_with fail
          obtain ⟨⟨hw1, hw2⟩, ⟨hw3, hw4⟩, hgz, hgz2⟩ := HWW.out
          refine wp_region_first_grown 14 1 (by assumption) rfl (by kernel_rfl) (by kernel_rfl) (by kernel_rfl) (by kernel_rfl) ?_
          simp only [List.take_succ_cons, List.take_zero]
          iterate 11 (go_big_quiet_step (fail))
          clear hw1 hw2 hw3 hw4 hgz hgz2
          repeat (go_big_quiet_step (fail))
          refine wpQuiet_nil ?_
          intro V hw'
          obtain ⟨⟨nqa, osqa⟩, hw''⟩ := hw'
          have BV : RowKit.Below W6.heap.size W6 V := by rw [hw'']; exact gro_below W6 nqa osqa
          have HBV : Hid (RowKit.Below W6.heap.size W6 V) := BV
          have v1 : V.cell? ⟨g, (k + 1) * 3, none⟩ = some (.string ⟨ynm.toArray⟩) := by rw [BV.cell (World.block_lt_of_cell? _ _ g1), g1]
          have v2 : V.cell? ⟨g, (k + 1) * 3 + 1, none⟩ = some (.slice ya ybs.length yc) := by rw [BV.cell (World.block_lt_of_cell? _ _ g2), g2]
          have v3 : V.cell? ⟨g, (k + 1) * 3 + 2, none⟩ = some (.int .i64 (ysy : Int)) := by rw [BV.cell (World.block_lt_of_cell? _ _ g3), g3]
          have vf : ∀ c, V.frozen? ⟨g, (k + 1) * 3 + c, none⟩ = false := fun c => by rw [BV.frozen (p := ⟨g, (k + 1) * 3 + c, none⟩) (by have q := World.block_lt_of_cell? _ _ g1; exact q)]; exact (HF6.out c).2
          have vf0 : V.frozen? ⟨g, (k + 1) * 3, none⟩ = false := vf 0
          have vf1 := vf 1
          have vf2 := vf 2
          clear hw'' z0 z1 z2 z3 BV vf g1 g2 g3
          refine wpAny_ready (rs := [14]) (by kernel_rfl) (by simp) ?_
          refine AllReady.cons rfl (fun K hK => ?_) AllReady.nil
          go_simp
          refine hK _ _ ?_
          clear hK K
          refine wpAny_done (by kernel_rfl) ?_ _
          obtain ⟨Q1, hQ1⟩ : ∃ Q, Q = ((V.setCell ⟨g, (k + 1) * 3, none⟩ (.string ⟨enm.toArray⟩)).setCell ⟨g, (k + 1) * 3 + 1, none⟩ (.slice ea ebs.length ec)).setCell ⟨g, (k + 1) * 3 + 2, none⟩ (.int .i64 (esy : Int)) := ⟨_, rfl⟩
          have HQ1 : Hid (Q1 = ((V.setCell ⟨g, (k + 1) * 3, none⟩ (.string ⟨enm.toArray⟩)).setCell ⟨g, (k + 1) * 3 + 1, none⟩ (.slice ea ebs.length ec)).setCell ⟨g, (k + 1) * 3 + 2, none⟩ (.int .i64 (esy : Int))) := hQ1
          rw [← hQ1]
          have hfar : ∀ a : Addr, a ≠ ⟨g, (k + 1) * 3, none⟩ → a ≠ ⟨g, (k + 1) * 3 + 1, none⟩ → a ≠ ⟨g, (k + 1) * 3 + 2, none⟩ → Q1.cell? a = V.cell? a := fun a h1 h2 h3 => by
            rw [hQ1, World.cell?_setCell_other (h := h3.symm), World.cell?_setCell_other (h := h2.symm), World.cell?_setCell_other (h := h1.symm)]
          have hcV : ∀ {a : Addr} {u : Value}, W6.cell? a = some u → V.cell? a = some u := fun h => by rw [HBV.out.cell (World.block_lt_of_cell? _ _ h), h]
          have hbk : ∀ (b o o' : Nat), b ≠ g → (⟨b, o, none⟩ : Addr) ≠ ⟨g, o', none⟩ := fun b o o' h q => h (congrArg Addr.block q)
          have hof : ∀ (o o' : Nat), o ≠ o' → (⟨g, o, none⟩ : Addr) ≠ ⟨g, o', none⟩ := fun o o' h q => h (congrArg Addr.off q)
          have hrg : r ≠ g := HR.out.rg
          have hTg : T.heap.size ≠ g := by have := HGT.out.1; omega
          have m0 := BxA.cell HX6.out 0 _ rfl
          have m1 := BxA.cell HX6.out 1 _ rfl
          have m2 := BxA.cell HX6.out 2 _ rfl
          have r0 : Q1.cell? ⟨r, 0, none⟩ = some (.slice (some ⟨g, 0, none⟩) (n + 1) c4) := by rw [hfar _ (hbk _ _ _ hrg) (hbk _ _ _ hrg) (hbk _ _ _ hrg)]; exact hcV e0
          have x0 : Q1.cell? ⟨T.heap.size, 0, none⟩ = some (.string ⟨ynm.toArray⟩) := by rw [hfar _ (hbk _ _ _ hTg) (hbk _ _ _ hTg) (hbk _ _ _ hTg)]; exact hcV m0
          have x1 : Q1.cell? ⟨T.heap.size, 1, none⟩ = some (.slice ya ybs.length yc) := by rw [hfar _ (hbk _ _ _ hTg) (hbk _ _ _ hTg) (hbk _ _ _ hTg)]; exact hcV m1
          have x2 : Q1.cell? ⟨T.heap.size, 2, none⟩ = some (.int .i64 (ysy : Int)) := by rw [hfar _ (hbk _ _ _ hTg) (hbk _ _ _ hTg) (hbk _ _ _ hTg)]; exact hcV m2
          have y0 : Q1.cell? ⟨g, k * 3, none⟩ = some (.string ⟨enm.toArray⟩) := by rw [hfar _ (hof _ _ (by omega)) (hof _ _ (by omega)) (hof _ _ (by omega))]; exact hcV e1
          have y1 : Q1.cell? ⟨g, k * 3 + 1, none⟩ = some (.slice ea ebs.length ec) := by rw [hfar _ (hof _ _ (by omega)) (hof _ _ (by omega)) (hof _ _ (by omega))]; exact hcV e2
          have y2 : Q1.cell? ⟨g, k * 3 + 2, none⟩ = some (.int .i64 (esy : Int)) := by rw [hfar _ (hof _ _ (by omega)) (hof _ _ (by omega)) (hof _ _ (by omega))]; exact hcV e3
          have HQF : Hid (∀ c, Q1.frozen? ⟨g, k * 3 + c, none⟩ = false) := fun c => by rw [hQ1, World.frozen?_setCell, World.frozen?_setCell, World.frozen?_setCell, HBV.out.frozen (p := ⟨g, k * 3 + c, none⟩) (by have q := World.block_lt_of_cell? _ _ e1; exact q)]; exact (HF6.out c).1
          have z0 := fun nq os => gro_cell r0 nq os
          have z1 := fun nq os => gro_cell x0 nq os
          have z2 := fun nq os => gro_cell x1 nq os
          have z3 := fun nq os => gro_cell x2 nq os
          clear hQ1 hfar hcV hbk hof hrg hTg m0 m1 m2 r0 x0 x1 x2 e0 e1 e2 e3 v1 v2 v3 vf0 vf1 vf2
          go_wp2_with fail
          obtain ⟨⟨hw1, hw2⟩, ⟨hw3, hw4⟩, hgz, hgz2⟩ := HWW.out
          refine wp_region_first_grown 8 1 (by assumption) rfl (by kernel_rfl) (by kernel_rfl) (by kernel_rfl) (by kernel_rfl) ?_
          simp only [List.take_succ_cons, List.take_zero]
          iterate 6 (go_big_quiet_step (fail))
          clear hw1 hw2 hw3 hw4 hgz hgz2
          repeat (go_big_quiet_step (fail))
          refine wpQuiet_nil ?_
          intro V2 hw'
          obtain ⟨⟨nqb, osqb⟩, hw''⟩ := hw'
          have BV2 : RowKit.Below Q1.heap.size Q1 V2 := by rw [hw'']; exact gro_below Q1 nqb osqb
          have HBV2 : Hid (RowKit.Below Q1.heap.size Q1 V2) := BV2
          have v1 : V2.cell? ⟨g, k * 3, none⟩ = some (.string ⟨enm.toArray⟩) := by rw [BV2.cell (World.block_lt_of_cell? _ _ y0), y0]
          have v2 : V2.cell? ⟨g, k * 3 + 1, none⟩ = some (.slice ea ebs.length ec) := by rw [BV2.cell (World.block_lt_of_cell? _ _ y1), y1]
          have v3 : V2.cell? ⟨g, k * 3 + 2, none⟩ = some (.int .i64 (esy : Int)) := by rw [BV2.cell (World.block_lt_of_cell? _ _ y2), y2]
          have vf : ∀ c, V2.frozen? ⟨g, k * 3 + c, none⟩ = false := fun c => by rw [BV2.frozen (p := ⟨g, k * 3 + c, none⟩) (by have q := World.block_lt_of_cell? _ _ y0; exact q)]; exact HQF.out c
          have vf0 : V2.frozen? ⟨g, k * 3, none⟩ = false := vf 0
          have vf1 := vf 1
          have vf2 := vf 2
          clear hw'' z0 z1 z2 z3 BV2 vf y0 y1 y2
          refine wpAny_ready (rs := [8]) (by kernel_rfl) (by simp) ?_
          refine AllReady.cons rfl (fun K hK => ?_) AllReady.nil
          go_simp
          refine hK _ _ ?_
          clear hK K
          refine wpAny_done (by kernel_rfl) ?_ _
          clear v1 v2 v3 vf0 vf1 vf2
          go_wp2_with fail
          go_roundg k
          case measure => omega
          case rel =>
            have hYe : Y = Z.take k ++ ⟨enm, .slice ea ebs.length ec, ebs, esy⟩ :: ⟨ynm, .slice ya ybs.length yc, ybs, ysy⟩ :: Z.drop (k + 1) := by
              have e1 : Z = Z.take k ++ Z.drop k := (List.take_append_drop _ _).symm
              have e2 : Z.take (k + 1) = Z.take k ++ [⟨enm, .slice ea ebs.length ec, ebs, esy⟩] := by
                have e3 : (Z.take k ++ Z.drop k).take (k + 1) = Z.take k ++ [⟨enm, .slice ea ebs.length ec, ebs, esy⟩] := by
                  rw [HDK.out, List.take_append, List.take_of_length_le (by rw [List.length_take]; omega), List.length_take, Nat.min_eq_left (by omega), show k + 1 - k = 1 by omega]
                  rfl
                rw [← e1] at e3
                exact e3
              rw [HY.out, e2, List.append_assoc]
              rfl
            have hsw := swp_eq hYe (by rw [List.length_take]; omega) hk2
            have hlo := HR.out.lo
            have hbV : RowKit.Below wr.heap.size wr V := HB6.out.trans (HBV.out.mono HB6.out.size)
            have hgw : g < wr.heap.size := HR.out.lt g (HR.out.fl g rfl)
            have o1 := rowk_block hlo fun b hb => hbV.block b (HR.out.lt b (HR.out.fl b hb))
            rw [HYL2.out] at o1
            have o2 := (World.ownsRow.stored (World.ownsRow.stored (World.ownsRow.stored o1 ((k + 1) * 3) (.string ⟨enm.toArray⟩)).1 ((k + 1) * 3 + 1) (.slice ea ebs.length ec)).1 ((k + 1) * 3 + 2) (.int .i64 (esy : Int))).1
            rw [← HQ1.out] at o2
            have hgQ : g < Q1.heap.size := (own_lt o2 g rfl).2
            have o3 := rowk_block o2 fun b hb => HBV2.out.block b (own_lt o2 b hb).2
            have o4 := (World.ownsRow.stored (World.ownsRow.stored (World.ownsRow.stored o3 (k * 3) (.string ⟨ynm.toArray⟩)).1 (k * 3 + 1) (.slice ya ybs.length yc)).1 (k * 3 + 2) (.int .i64 (ysy : Int))).1
            have hrc := rcs_swp Y k hk2
            rw [HY1.out, HY2.out] at hrc
            simp only at hrc
            rw [← hrc] at o4
            have hfQ : Fr (fun j => j = g) wr Q1 := by
              rw [HQ1.out]
              exact (((Fr.of_below hbV).trans (Fr.of_grown (F := fun j => j = g) grown_setCell fun j hj => .inl (by cases hj; rfl)) fun _ _ h => h).trans (Fr.of_grown (F := fun j => j = g) grown_setCell fun j hj => .inl (by cases hj; rfl)) fun _ _ h => h).trans (Fr.of_grown (F := fun j => j = g) grown_setCell fun j hj => .inl (by cases hj; rfl)) fun _ _ h => h
            have hfF : Fr (fun j => j = g) wr (((V2.setCell ⟨g, k * 3, none⟩ (.string ⟨ynm.toArray⟩)).setCell ⟨g, k * 3 + 1, none⟩ (.slice ya ybs.length yc)).setCell ⟨g, k * 3 + 2, none⟩ (.int .i64 (ysy : Int))) := (((hfQ.trans (Fr.of_below (F := fun j => j = g) HBV2.out) fun _ _ h => h).trans (Fr.of_grown (F := fun j => j = g) grown_setCell fun j hj => .inl (by cases hj; rfl)) fun _ _ h => h).trans (Fr.of_grown (F := fun j => j = g) grown_setCell fun j hj => .inl (by cases hj; rfl)) fun _ _ h => h).trans (Fr.of_grown (F := fun j => j = g) grown_setCell fun j hj => .inl (by cases hj; rfl)) fun _ _ h => h
            have hsl : (swp Y k hk2).length = n + 1 := by rw [(swp_perm Y k hk2).length_eq]; exact HYL2.out
            have hRf := HR.out.perm (swp_perm Y k hk2) hfF (by rw [hsl]; exact o4)
            refine ⟨k, swp Y k hk2, rfl, by omega, Nat.le_refl _, ?_, hRf, ?_, ?_⟩
            · apply hide
              rw [hsw, HDK.out]
            · apply hide
              rw [HDK.out]
              intro b hb
              rcases List.mem_cons.1 hb with rfl | hb
              · exact HLT.out
              · exact HD.out b hb
            · apply hide
              refine HFr.out.trans hfF fun j hj q => ?_
              have q' : j = g := q
              subst q'
              rcases HGF.out with h | h
              · exact h
              · omega
        · by_cases heq : enm = ynm
          · have hb1 : Op.bytesLess enm ynm = false := by rw [Go.Proofs.bytesLess_eq, heq]; exact decide_eq_false (by rw [← heq]; rw [← heq] at hlt; exact hlt)
            have hb2 : (enm == ynm) = true := by simpa using heq
            have hb3 : Op.bytesLess (⟨enm.toArray⟩ : ByteArray).toList (⟨ynm.toArray⟩ : ByteArray).toList = false := by rw [str_toList, str_toList]; exact hb1
            have hb4 : ((⟨enm.toArray⟩ : ByteArray).toList == (⟨ynm.toArray⟩ : ByteArray).toList) = true := by rw [str_toList, str_toList]; exact hb2
            have HNL : Hid (¬ ynm < enm) := hlt
            clear heq hlt
            go_wp2_with fail
            obtain ⟨⟨hw1, hw2⟩, ⟨hw3, hw4⟩, hgz, hgz2⟩ := HWW.out
            refine wp_region_quiet_grown (by assumption) (by kernel_rfl) ?_
            iterate 9 (go_big_quiet_step (fail))
            clear hw1 hw2 hw3 hw4
            repeat (go_big_quiet_step (fail))
            refine wpQuiet_nil ?_
            intro T hw'
            obtain ⟨⟨nq, osq⟩, hw''⟩ := hw'
            have HBT : Hid (RowKit.Below wr.heap.size wr T) := by apply hide; rw [hw'']; exact gro_below wr nq osq
            clear hw'' z0 z1 z2 b0 hz hgz hgz2
            go_wp2_with fail
            go_end0
            exact ⟨rfl, HEND.out T (Z.take (k + 1)) (Z.drop (k + 1)) HBT.out (List.take_append_drop _ _).symm HY.out HD.out (fun a h => by rw [HGL.out] at h; cases h; exact HNL.out)⟩
          · have hb1 : Op.bytesLess enm ynm = true := by rw [Go.Proofs.bytesLess_eq]; exact decide_eq_true (Std.lt_of_le_of_ne (List.not_lt.1 hlt) heq)
            have hb2 : (enm == ynm) = false := by simpa using heq
            have hb3 : Op.bytesLess (⟨enm.toArray⟩ : ByteArray).toList (⟨ynm.toArray⟩ : ByteArray).toList = true := by rw [str_toList, str_toList]; exact hb1
            have HNL : Hid (¬ ynm < enm) := hlt
            clear heq hlt
            go_wp2_with fail
            obtain ⟨⟨hw1, hw2⟩, ⟨hw3, hw4⟩, hgz, hgz2⟩ := HWW.out
            refine wp_region_quiet_grown (by assumption) (by kernel_rfl) ?_
            iterate 9 (go_big_quiet_step (fail))
            clear hw1 hw2 hw3 hw4
            repeat (go_big_quiet_step (fail))
            refine wpQuiet_nil ?_
            intro T hw'
            obtain ⟨⟨nq, osq⟩, hw''⟩ := hw'
            have HBT : Hid (RowKit.Below wr.heap.size wr T) := by apply hide; rw [hw'']; exact gro_below wr nq osq
            clear hw'' z0 z1 z2 b0 hz hgz hgz2
            go_wp2_with fail
            go_end0
            exact ⟨rfl, HEND.out T (Z.take (k + 1)) (Z.drop (k + 1)) HBT.out (List.take_append_drop _ _).symm HY.out HD.out (fun a h => by rw [HGL.out] at h; cases h; exact HNL.out)⟩
end Go.Proofs.Ythegdhbmfojdaaa
