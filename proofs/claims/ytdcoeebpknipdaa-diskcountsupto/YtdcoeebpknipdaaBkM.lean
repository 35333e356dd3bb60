/- Rows whose block may be longer than they may grow; the law's book. -/
import Derived.Test.YtdcoeebpknipdaaNum
namespace Go.Proofs.Ytdcoeebpknipdaa
open Go.RowKit Go.Maps

/-- A row of one-cell elements of the type e: its block is at least as long as it may grow. -/
def RowL (w : World) (base e : Nat) (v : Value) (xs : List Value) : Prop :=
  (v = .slice none 0 0 ∧ xs = []) ∨ ∃ g cap cur, v = .slice (some ⟨g, 0, none⟩) xs.length cap ∧ base ≤ g ∧ w.heap[g]? = some (.cells cur e (0, 0)) ∧ xs.length ≤ cap ∧ cap ≤ cur.size ∧ cap ≤ maxLen ∧ cur.toList.take xs.length = xs
theorem RowL.nil (w : World) (base e : Nat) : RowL w base e (.slice none 0 0) [] := .inl ⟨rfl, rfl⟩
theorem RowL.of_own {w : World} {base e n : Nat} {v : Value} {xs : List Value} (h : w.ownsRow base e 1 v n xs) : RowL w base e v xs := by
  have hl : xs.length = n := by simpa using h.1
  rcases h.2 with ⟨rfl, h0⟩ | ⟨g, cap, cur, h1, h2, h3, h4, h5, h6, h7⟩
  · exact .inl ⟨rfl, List.eq_nil_of_length_eq_zero (by omega)⟩
  · subst hl
    exact .inr ⟨g, cap, cur, h1, h2, h3, h4, by omega, h5, by simpa using h7⟩
theorem RowL.lt {w : World} {base e : Nat} {v : Value} {xs : List Value} (h : RowL w base e v xs) (r : Nat) (hr : v.ownBlock = some r) : base ≤ r ∧ r < w.heap.size := by
  rcases h with ⟨h1, _⟩ | ⟨g, cap, cur, h1, h2, h3, _⟩
  · rw [h1] at hr; cases hr
  · rw [h1] at hr
    simp only [Value.ownBlock, Option.some.injEq] at hr
    rw [← hr]
    exact ⟨h2, (Array.getElem?_eq_some_iff.1 h3).1⟩
theorem RowL.blk {w : World} {base e : Nat} {v : Value} {xs : List Value} (h : RowL w base e v xs) (r : Nat) (hr : v.ownBlock = some r) : ∃ cur, w.heap[r]? = some (.cells cur e (0, 0)) := by
  rcases h with ⟨h1, _⟩ | ⟨g, cap, cur, h1, h2, h3, _⟩
  · rw [h1] at hr; cases hr
  · rw [h1] at hr
    simp only [Value.ownBlock, Option.some.injEq] at hr
    rw [← hr]
    exact ⟨cur, h3⟩
theorem RowL.keep {w w' : World} {base e : Nat} {v : Value} {xs : List Value} (h : RowL w base e v xs) (hb : ∀ r, v.ownBlock = some r → w'.heap[r]? = w.heap[r]?) : RowL w' base e v xs := by
  rcases h with h | ⟨g, cap, cur, h1, h2, h3, h4⟩
  · exact .inl h
  · exact .inr ⟨g, cap, cur, h1, h2, by rw [hb g (by rw [h1]; rfl)]; exact h3, h4⟩
theorem RowL.sl {w : World} {base e : Nat} {v : Value} {xs : List Value} (h : RowL w base e v xs) : ∃ a c, v = .slice a xs.length c := by
  rcases h with ⟨rfl, rfl⟩ | ⟨g, cap, cur, rfl, _⟩
  · exact ⟨_, _, rfl⟩
  · exact ⟨_, _, rfl⟩
theorem RowL.get {w : World} {base e : Nat} {v : Value} {xs : List Value} (h : RowL w base e v xs) {i : Nat} {u : Value} (hu : xs[i]? = some u) : ∃ g c, v = .slice (some ⟨g, 0, none⟩) xs.length c ∧ w.cell? ⟨g, i, none⟩ = some u ∧ w.frozen? ⟨g, i, none⟩ = false ∧ xs.length ≤ c ∧ c ≤ maxLen := by
  rcases h with ⟨rfl, rfl⟩ | ⟨g, cap, cur, rfl, h2, h3, h4, h5, h6, h7⟩
  · simp at hu
  · refine ⟨g, cap, rfl, BxA.cell (t := e) (cs := cur) h3 i u ?_, BxA.free (t := e) (cs := cur) h3 i, h4, h6⟩
    have hi : i < xs.length := (List.getElem?_eq_some_iff.1 hu).1
    rw [← h7, List.getElem?_take, if_pos hi] at hu
    simpa using hu
theorem RowL.rds {w : World} {base e : Nat} {v : Value} {xs : List Value} (h : RowL w base e v xs) : Rds w v xs := by
  rcases h with ⟨rfl, rfl⟩ | ⟨g, cap, cur, rfl, h2, h3, h4, h5, h6, h7⟩
  · exact Rds.nil w
  · refine ⟨some ⟨g, 0, none⟩, cap, rfl, h4, h6, (fun h => by cases h), ?_⟩
    rintro ad ⟨rfl⟩ j u hj
    rw [Addr.add_lit]
    simp only [Nat.zero_add]
    have hi : j < xs.length := (List.getElem?_eq_some_iff.1 hj).1
    refine BxA.cell (t := e) (cs := cur) h3 j u ?_
    rw [← h7, List.getElem?_take, if_pos hi] at hj
    simpa using hj
theorem RowL.set {w : World} {base e g n c : Nat} {xs : List Value} (h : RowL w base e (.slice (some ⟨g, 0, none⟩) n c) xs) (i : Nat) (u : Value) : RowL (w.setCell ⟨g, i, none⟩ u) base e (.slice (some ⟨g, 0, none⟩) n c) (xs.set i u) := by
  rcases h with ⟨h1, _⟩ | ⟨g', cap, cur, h1, h2, h3, h4, h5, h6, h7⟩
  · cases h1
  · injection h1 with e1 e2 e3
    injection e1 with e1
    injection e1 with e1
    subst e1 e2 e3
    refine .inr ⟨g, c, cur.setIfInBounds i u, by simp, h2, heap_setCell_same w g i _ e u h3, by simpa using h4, by simpa using h5, h6, ?_⟩
    rw [List.length_set, Array.toList_setIfInBounds, List.take_set, h7]
/-- append to such a row. -/
theorem run_appL {P : Program} (w : World) (base : Nat) (t ty e : TypeId) (i : TypeInfo) (z : Value) (bytes : Nat) (ht : P.underlying t = some (.slice e)) (hi : P.info? e = some i) (hz : i.zero = some z)
    (hsize : i.size = 1) (hby : i.bytes = bytes) (hzs : z.cells.size = 1) (v : Value) (xs : List Value) (hown : RowL w base e v xs)
    (a : Addr) (m c : Nat) (news : List Value) (hl : news.length = m) (hnews : ∀ j u, news[j]? = some u → w.cell? (a.add j) = some u) (h1 : ∀ u ∈ news, u.oneCell' = true)
    (h63 : xs.length + m ≤ maxLen) (hbytes : ((xs.length + m) + (xs.length + m) / 4 + 192) * bytes ≤ 281474976710656) (hbase : base ≤ w.heap.size) :
    ∃ v' w', (Builtin.append_ #[t, t] ty #[v, .slice (some a) m c]).run P w = .ok v' w' ∧ RowL w' base e v' (xs ++ news) ∧ w.grownBy w' v.ownBlock ∧ (v'.ownBlock = v.ownBlock ∨ ∃ g, v'.ownBlock = some g ∧ w.heap.size ≤ g) := by
  have hl1 : news.length = m * i.size := by rw [hsize, hl]; omega
  rcases hown with ⟨rfl, rfl⟩ | ⟨g, cap, cur, rfl, hbg, hg, hnc, hcs, hcm, htake⟩
  · obtain ⟨v', w', hr, k1, k2, k3⟩ := run_appF (P := P) w base t ty e i z 1 bytes ht hi hz hsize hby hzs (by decide) (.slice none 0 0) 0 [] ⟨rfl, .inl ⟨rfl, rfl⟩⟩ a m c news (by omega) hnews h1 (by simpa using h63) (by simpa using hbytes) hbase
    exact ⟨v', w', hr, RowL.of_own k1, k2, k3⟩
  · subst hby
    by_cases hroom : xs.length + m ≤ cap
    · have hr := run_append_room (P := P) w t ty e i ht hi g xs.length cap cur hg a m c news hl1 hnews h1 hroom (by rw [hsize, hl]; omega)
      refine ⟨_, _, hr, .inr ⟨g, cap, _, by rw [List.length_append, hl], hbg, setRow_heap w g cur _ e _ hg, by rw [List.length_append, hl]; exact hroom, ?_, hcm, ?_⟩, ⟨rfl, rfl, rfl, by simp, fun k _ hk => setRow_other w g k _ (fun e => hk (by simp [Value.ownBlock, e]))⟩, .inl rfl⟩
      · simp only [List.size_toArray, List.length_append, List.length_take, List.length_drop, Array.length_toList, hsize, hl]
        omega
      · rw [hsize, Nat.mul_one, htake]
        simp only [List.append_assoc]
        rw [← List.append_assoc]
        exact List.take_left
    · have holds : ∀ j u, xs[j]? = some u → w.cell? ((⟨g, 0, none⟩ : Addr).add j) = some u := fun j u hj => by
        rw [Addr.add_lit]
        simp only [Nat.zero_add]
        have hi' : j < xs.length := (List.getElem?_eq_some_iff.1 hj).1
        refine BxA.cell (t := e) (cs := cur) hg j u ?_
        rw [← htake, List.getElem?_take, if_pos hi'] at hj
        simpa using hj
      have hr := run_append_grow (P := P) w t ty e i z ht hi hz ⟨g, 0, none⟩ xs.length cap xs (by rw [hsize]; omega) holds a m c news hl1 hnews (by omega) (by unfold maxLen at h63; omega) (growslice_fits_wide (by omega) hbytes)
      have hge := grownCap_ge w (xs.length + m) cap e
      refine ⟨_, _, hr, .inr ⟨w.heap.size, _, _, by rw [List.length_append, hl], hbase, heap_alloc_new w.drew _, by rw [List.length_append, hl]; exact hge, ?_, grownCap_le_maxLen w _ _ e h63, ?_⟩, ⟨rfl, rfl, rfl, by simp, fun k hk _ => Below.heap_alloc w.drew _ k hk⟩, .inr ⟨_, rfl, Nat.le_refl _⟩⟩
      · simp only [Array.size_append, List.size_toArray, size_zeroCells, hzs, hl]
        omega
      · simp only [Array.toList_append, List.append_assoc]
        rw [← List.append_assoc]
        exact List.take_left
theorem wpList_appL {P : Program} {w : World} {ops : Array Oper} {rest : List Oper} {o : Oper} {a : Act} {Q : Exit → Act → World → Prop} (hgd : o.guard = none) (s x : Operand) (t : TypeId)
    (ho : o.op = .call { callee := .builtin .append, args := #[s, x], argTypes := #[t, t] })
    (base : Nat) (e : TypeId) (i : TypeInfo) (z : Value) (bytes : Nat) (ht : P.underlying t = some (.slice e)) (hi : P.info? e = some i) (hz : i.zero = some z)
    (hsize : i.size = 1) (hby : i.bytes = bytes) (hzs : z.cells.size = 1)
    (v : Value) (xs : List Value) (hs : a.eval s = v) (hown : RowL w base e v xs)
    (ad : Addr) (m c : Nat) (news : List Value) (hx : a.eval x = .slice (some ad) m c) (hl : news.length = m) (hnews : ∀ j u, news[j]? = some u → w.cell? (ad.add j) = some u) (h1 : ∀ u ∈ news, u.oneCell' = true)
    (h63 : xs.length + m ≤ maxLen) (hbytes : ((xs.length + m) + (xs.length + m) / 4 + 192) * bytes ≤ 281474976710656) (hbase : base ≤ w.heap.size)
    (h : ∀ v' w', RowL w' base e v' (xs ++ news) → w.grownBy w' v.ownBlock → (v'.ownBlock = v.ownBlock ∨ ∃ g, v'.ownBlock = some g ∧ w.heap.size ≤ g) → wpList P ops Q rest (a.put o.dst v') w') : wpList P ops Q (o :: rest) a w := by
  obtain ⟨v', w', hrun, k1, k2, k3⟩ := run_appL (P := P) w base t o.type e i z bytes ht hi hz hsize hby hzs v xs hown ad m c news hl hnews h1 h63 hbytes hbase
  refine wpList_plain hgd fun K hK => ?_
  unfold Oper.wp execOp
  simp only [ho, resolve, invoke, builtin, Sem.run_bind, Sem.run_pure, Result.andThen_ok, List.map_toArray, List.map_cons, List.map_nil, hs, hx, hrun]
  exact hK _ _ (h v' w' k1 k2 k3)
theorem Try.info_int : (Try.prog.info? 3).map (fun i => (i.zero, i.size, i.bytes)) = some (some (.int .i64 0), 1, 8) := by kernel_rfl
def nmL : List Str := [[97], [98], [97, 98], [97, 47, 49], [122]]
def nmK (k : Nat) : Str := nmL.getD (k % 5) []
theorem nmK_facts (k : Nat) : isNm (nmK k) = true ∧ nmK k ∈ nmL := by
  have h : ∀ j < 5, isNm (nmL.getD j []) = true ∧ nmL.getD j [] ∈ nmL := by decide +kernel
  exact h _ (Nat.mod_lt _ (by decide))
set_option maxHeartbeats 800000 in
theorem name_any (w : World) (k : Nat) (hk : k ≤ 9223372036854775807) : Calls Try.prog 38 #[.int .i64 (k : Int)] w fun e w' => e = .returned (.string ⟨(nmK k).toArray⟩) ∧ Below w.heap.size w w' := by
  have e0 : absN (k : Int) = k := by unfold absN; rw [if_neg (by omega)]; omega
  have kA := fun w' => abs_any w' (k : Int) (by omega) (by omega)
  simp only [e0] at kA
  obtain ⟨W, hW⟩ : ∃ W, W = w.alloc (.cells #[.string ⟨#[97]⟩, .string ⟨#[98]⟩, .string ⟨#[97, 98]⟩, .string ⟨#[97, 47, 49]⟩, .string ⟨#[122]⟩] 9) := ⟨_, rfl⟩
  have kA1 := kA W
  have HB : Hid (Below w.heap.size w W) := by apply hide; rw [hW]; exact (Below.refl _ _).alloc (Nat.le_refl _) _
  have hx : BxA W w.heap.size 9 #[.string ⟨#[97]⟩, .string ⟨#[98]⟩, .string ⟨#[97, 98]⟩, .string ⟨#[97, 47, 49]⟩, .string ⟨#[122]⟩] := by rw [hW]; exact BxA.new _ _ _
  have HW : Hid (W = _) := hW
  obtain ⟨j, hj⟩ : ∃ j, j = k % 5 := ⟨_, rfl⟩
  have hj2 : (k : Int) % 5 = (j : Int) := by omega
  have hj5 : j < 5 := by omega
  have hcj : W.cell? ⟨w.heap.size, j, none⟩ = some (.string ⟨(nmK k).toArray⟩) := by
    unfold nmK
    rw [← hj]
    rcases (by omega : j = 0 ∨ j = 1 ∨ j = 2 ∨ j = 3 ∨ j = 4) with rfl | rfl | rfl | rfl | rfl
    · exact hx.cell 0 _ rfl
    · exact hx.cell 1 _ rfl
    · exact hx.cell 2 _ rfl
    · exact hx.cell 3 _ rfl
    · exact hx.cell 4 _ rfl
  obtain ⟨B, hB⟩ : ∃ B, B = nmK k := ⟨_, rfl⟩
  rw [← hB] at hcj
  rw [← hB]
  clear kA hW hx hj hB e0
  go_enter Try.func38, Try.ntmps38
  go_wp2_with fail
  rw [← HW.out]
  refine kA1.mono ?_
  rintro e w1 ⟨rfl, rfl⟩
  clear kA1
  go_wp2_with fail
  go_ret
  exact ⟨rfl, HB.out⟩
end Go.Proofs.Ytdcoeebpknipdaa
