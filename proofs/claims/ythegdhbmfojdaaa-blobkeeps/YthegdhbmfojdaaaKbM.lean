/- What BlobKeeps has beside its store; the contracts of name and holds. -/
import Derived.Test.YthegdhbmfojdaaaKpM
import Derived.Test.YthegdhbmfojdaaaApM
import Derived.Test.YthegdhbmfojdaaaNum
import Derived.Test.YthegdhbmfojdaaaOnc
namespace Go.Proofs.Ythegdhbmfojdaaa
open Go.RowKit Go.Maps Go.Sort
set_option linter.unusedVariables false

/-- The names of the four blobs. -/
def nmS (k : Nat) : Str := if k = 0 then [120] else if k = 1 then [121] else if k = 2 then [120, 121] else [116, 46, 120]
theorem nmS_facts : ∀ k < 4, bNm (nmS k) = true ∧ (nmS k).length ≤ 3 ∧ ∀ j < 4, nmS k = nmS j → k = j := by decide +kernel
theorem abs_nat (w : World) (k : Nat) (hk : k < 1000) : Calls Try.prog 18 #[.int .i64 (k : Int)] w fun e w' => e = .returned (.int .i64 (k : Int)) ∧ w' = w := by
  have := abs_any w (k : Int) (by omega) (by omega)
  rw [show absN (k : Int) = k by unfold absN; rw [if_neg (by omega)]; simp] at this
  exact this
theorem row4_below (w : World) (os : Obj) : Below w.heap.size w (w.alloc os) := (Below.refl _ _).alloc (Nat.le_refl _) _
set_option maxHeartbeats 1600000 in
theorem name_any (w : World) (k : Nat) (hk : k < 4) : Calls Try.prog 20 #[.int .i64 (k : Int)] w fun e w' => e = .returned (.string ⟨(nmS k).toArray⟩) ∧ Below w.heap.size w w' := by
  have kA := fun W : World => abs_nat W k (by omega)
  have hk4 : (k : Int) % 4 = (k : Int) := by omega
  have HE : Hid (k = 0 ∨ k = 1 ∨ k = 2 ∨ k = 3) := by apply hide; omega
  rcases HE.out with rfl | rfl | rfl | rfl
  all_goals
    go_enter Try.func20, Try.ntmps20
    go_wp2_with fail
    refine (kA _).mono ?_
    rintro e wq ⟨rfl, rfl⟩
    go_wp2_with fail
    go_ret
    exact ⟨rfl, row4_below _ _⟩
theorem alloc_grow (w : World) (o : Obj) : w.alloc o = Go.Sort.grow (w.drewN 0) #[o] := by
  unfold World.alloc Go.Sort.grow
  simp [World.drewN]
set_option maxHeartbeats 1600000 in
theorem name_gr (w : World) (nq : Nat) (os : Array Obj) (k : Nat) (hk : k < 4) : Calls Try.prog 20 #[.int .i64 (k : Int)] (Go.Sort.grow (w.drewN nq) os) fun e w' => e = .returned (.string ⟨(nmS k).toArray⟩) ∧ ∃ q os', w' = Go.Sort.grow ((Go.Sort.grow (w.drewN nq) os).drewN q) os' := by
  obtain ⟨V, hV⟩ : ∃ V, V = Go.Sort.grow (w.drewN nq) os := ⟨_, rfl⟩
  rw [← hV]
  clear hV
  have kA := fun W : World => abs_nat W k (by omega)
  have HE : Hid (k = 0 ∨ k = 1 ∨ k = 2 ∨ k = 3) := by apply hide; omega
  rcases HE.out with rfl | rfl | rfl | rfl
  all_goals
    go_enter Try.func20, Try.ntmps20
    go_wp2_with fail
    refine (kA _).mono ?_
    rintro e wq ⟨rfl, rfl⟩
    go_wp2_with fail
    go_ret
    exact ⟨rfl, 0, _, alloc_grow _ _⟩
theorem Reads.cut {w : World} {ao : Option Addr} {c : Nat} {l : Str} (h : Reads w (.slice ao l.length c) l) (k : Nat) (hk : k ≤ l.length) : Reads w (.slice ao k c) (l.take k) := by
  obtain ⟨ao', c', e, h1, h2, h3, h4⟩ := h
  simp only [Value.slice.injEq, true_and] at e
  obtain ⟨rfl, rfl⟩ := e
  refine ⟨ao, c, by rw [List.length_take, Nat.min_eq_left hk], by rw [List.length_take]; omega, h2, fun q => ⟨by rw [List.length_take]; have := (h3 q).1; omega, (h3 q).2⟩, fun ad had j u hj => h4 ad had j u ?_⟩
  have : bv (l.take k) = (bv l).take k := by simp [bv, List.map_take]
  rw [this, List.getElem?_take] at hj
  split at hj
  · exact hj
  · cases hj
/-- What the rows there and bytes say. -/
structure KI (M : List (Str × Str)) (Th : List Int) (By : List Str) : Prop where
  bl : Bls M
  tl : Th.length = 4
  yl : By.length = 4
  t01 : ∀ k < 4, Th.getD k 0 = 0 ∨ Th.getD k 0 = 1
  yes : ∀ k < 4, Th.getD k 0 = 1 → (nmS k, By.getD k []) ∈ M
  no : ∀ k < 4, Th.getD k 0 = 0 → mHas M (nmS k) = false
  len : (M.length : Int) = Th.sum
theorem sum_set (l : List Int) (k : Nat) (z : Int) (h : k < l.length) : (l.set k z).sum = l.sum - l.getD k 0 + z := by
  induction l generalizing k with
  | nil => simp at h
  | cons a l ih =>
    cases k with
    | zero => simp; omega
    | succ k =>
      have := ih k (by simpa using h)
      simp only [List.set_cons_succ, List.sum_cons, List.getD_cons_succ]
      omega
theorem getD_set (l : List Int) (k j : Nat) (z : Int) (h : k < l.length) : (l.set k z).getD j 0 = if k = j then z else l.getD j 0 := by
  simp only [List.getD_eq_getElem?_getD, List.getElem?_set]
  split
  · rename_i e; subst e; first | rfl | (rw [if_pos h]; rfl) | simp [h]
  · rfl
theorem getD_setS (l : List Str) (k j : Nat) (z : Str) (h : k < l.length) : (l.set k z).getD j [] = if k = j then z else l.getD j [] := by
  simp only [List.getD_eq_getElem?_getD, List.getElem?_set]
  split
  · rename_i e; subst e; first | rfl | (rw [if_pos h]; rfl) | simp [h]
  · rfl
theorem KI.few {M : List (Str × Str)} {Th : List Int} {By : List Str} (h : KI M Th By) : M.length ≤ 4 := by
  have h1 := h.len
  match Th, h.tl with
  | [a, b, c, d], _ =>
    have ha := h.t01 0 (by omega)
    have hb := h.t01 1 (by omega)
    have hc := h.t01 2 (by omega)
    have hd := h.t01 3 (by omega)
    simp at h1 ha hb hc hd
    omega
theorem KI.put {M : List (Str × Str)} {Th : List Int} {By : List Str} (h : KI M Th By) {k : Nat} (hk : k < 4) (h0 : Th.getD k 0 = 0) {l : Str} (hl : l.length ≤ 1048576) : KI (M ++ [(nmS k, l)]) (Th.set k 1) (By.set k l) := by
  have f := nmS_facts k hk
  have tk : k < Th.length := by rw [h.tl]; exact hk
  have yk : k < By.length := by rw [h.yl]; exact hk
  refine ⟨h.bl.add f.1 hl (h.no k hk h0), by rw [List.length_set]; exact h.tl, by rw [List.length_set]; exact h.yl, fun j hj => ?_, fun j hj e => ?_, fun j hj e => ?_, ?_⟩
  · rw [getD_set _ _ _ _ tk]
    split
    · exact .inr rfl
    · exact h.t01 j hj
  · rw [getD_set _ _ _ _ tk] at e
    rw [getD_setS _ _ _ _ yk]
    by_cases q : k = j
    · subst q
      rw [if_pos rfl]
      simp
    · rw [if_neg q] at e ⊢
      exact List.mem_append_left _ (h.yes j hj e)
  · rw [getD_set _ _ _ _ tk] at e
    by_cases q : k = j
    · rw [if_pos q] at e; cases e
    · rw [if_neg q] at e
      unfold mHas
      rw [List.any_append]
      have h1 : M.any (fun e => e.1 == nmS j) = false := h.no j hj e
      rw [h1]
      have : ¬ nmS k = nmS j := fun e2 => q (f.2.2 j hj e2)
      simpa using this
  · rw [sum_set _ _ _ tk, h0, List.length_append]
    have := h.len
    simp
    omega
theorem del_len {M : List (Str × Str)} (hM : Bls M) {x l : Str} (h : (x, l) ∈ M) : (mDel M x).length + 1 = M.length := by
  have key : ∀ M : List (Str × Str), (∀ e ∈ M, e.1 ≠ x) → mDel M x = M := fun M hn => by
    unfold mDel
    rw [List.filter_eq_self]
    intro e he
    simpa using hn e he
  have nd := hM.nd
  clear hM
  induction M with
  | nil => cases h
  | cons e M ih =>
    obtain ⟨p1, p2⟩ := List.pairwise_cons.1 nd
    rcases List.mem_cons.1 h with h | h
    · subst h
      have hk := key M fun e he => (p1 e he).symm
      unfold mDel at hk ⊢
      rw [List.filter_cons_of_neg (by simp), hk]
      rfl
    · have hne : e.1 ≠ x := p1 _ h
      have ih := ih h p2
      unfold mDel at ih ⊢
      rw [List.filter_cons_of_pos (by simpa using hne)]
      simp only [List.length_cons]
      omega
theorem KI.del {M : List (Str × Str)} {Th : List Int} {By : List Str} (h : KI M Th By) {k : Nat} (hk : k < 4) (h1 : Th.getD k 0 = 1) : KI (mDel M (nmS k)) (Th.set k 0) By := by
  have f := nmS_facts k hk
  have tk : k < Th.length := by rw [h.tl]; exact hk
  refine ⟨h.bl.del _, by rw [List.length_set]; exact h.tl, h.yl, fun j hj => ?_, fun j hj e => ?_, fun j hj e => ?_, ?_⟩
  · rw [getD_set _ _ _ _ tk]
    split
    · exact .inl rfl
    · exact h.t01 j hj
  · rw [getD_set _ _ _ _ tk] at e
    by_cases q : k = j
    · rw [if_pos q] at e; cases e
    · rw [if_neg q] at e
      exact del_in (h.yes j hj e) fun e2 => q (f.2.2 j hj e2.symm)
  · rw [getD_set _ _ _ _ tk] at e
    by_cases q : k = j
    · subst q
      exact del_out _
    · rw [if_neg q] at e
      have h2 := h.no j hj e
      unfold mHas at h2 ⊢
      rw [List.any_eq_false] at h2 ⊢
      exact fun x hx => h2 x (List.mem_filter.1 hx).1
  · rw [sum_set _ _ _ tk, h1]
    have := del_len h.bl (h.yes k hk h1)
    have := h.len
    omega
/-- The store, and the rows there and bytes. -/
structure Kb (w0 w : World) (p d : Nat) (F : Nat → Prop) (N : Nat) (s : St) (gx cx gy cy : Nat) (Th : List Int) (By : List Str) : Prop where
  ls : LS w0 w p d F N s
  a : w.ownsRow w0.heap.size 3 1 (.slice (some ⟨gx, 0, none⟩) 4 cx) 4 (iv Th)
  b : w.ownsRow w0.heap.size 9 1 (.slice (some ⟨gy, 0, none⟩) 4 cy) 4 (sv By)
  fx : ¬ F gx ∧ gx ≠ p
  fy : ¬ F gy ∧ gy ≠ p
  xy : gx ≠ gy
theorem Kb.below {w0 w w' : World} {p d N gx cx gy cy : Nat} {F : Nat → Prop} {s : St} {Th : List Int} {By : List Str} (h : Kb w0 w p d F N s gx cx gy cy Th By) (hb : Below w.heap.size w w') : Kb w0 w' p d F N s gx cx gy cy Th By :=
  ⟨h.ls.below hb, row_block h.a fun r hr => hb.block r (own_lt h.a r hr).2, row_block h.b fun r hr => hb.block r (own_lt h.b r hr).2, h.fx, h.fy, h.xy⟩
theorem Kb.keep {w0 w w' : World} {p p' d N N' gx cx gy cy : Nat} {F F' : Nat → Prop} {s s' : St} {Th : List Int} {By : List Str} (h : Kb w0 w p d F N s gx cx gy cy Th By) (h' : LS w0 w' p' d F' N' s') (hF' : ∀ i, F' i → F i ∨ w.heap.size ≤ i) (hp : p' = p ∨ w.heap.size ≤ p') (fr : Fr F w w') : Kb w0 w' p' d F' N' s' gx cx gy cy Th By := by
  have lx := (own_lt h.a gx rfl).2
  have ly := (own_lt h.b gy rfl).2
  refine ⟨h', row_block h.a fun r hr => ?_, row_block h.b fun r hr => ?_, ⟨fun hf => ?_, ?_⟩, ⟨fun hf => ?_, ?_⟩, h.xy⟩
  · injection hr with hr
    subst hr
    exact fr.block _ lx h.fx.1
  · injection hr with hr
    subst hr
    exact fr.block _ ly h.fy.1
  · rcases hF' _ hf with q | q
    · exact h.fx.1 q
    · omega
  · rcases hp with q | q
    · rw [q]; exact h.fx.2
    · omega
  · rcases hF' _ hf with q | q
    · exact h.fy.1 q
    · omega
  · rcases hp with q | q
    · rw [q]; exact h.fy.2
    · omega
theorem Kb.mv {w0 w w' : World} {p d N N' gx cx gy cy : Nat} {F : Nat → Prop} {s s' : St} {Th : List Int} {By : List Str} (h : Kb w0 w p d F N s gx cx gy cy Th By) (k : Ls w0 w w' p d N' F s') : ∃ F', Kb w0 w' p d F' N' s' gx cx gy cy Th By := by
  obtain ⟨⟨F', h', hF'⟩, fr⟩ := k
  exact ⟨F', h.keep h' hF' (.inl rfl) fr⟩
theorem Kb.setx {w0 w : World} {p d N gx cx gy cy : Nat} {F : Nat → Prop} {s : St} {Th : List Int} {By : List Str} (h : Kb w0 w p d F N s gx cx gy cy Th By) (k : Nat) (z : Int) : Kb w0 (w.setCell ⟨gx, k, none⟩ (.int .i64 z)) p d F N s gx cx gy cy (Th.set k z) By := by
  have g := grown_setCell (w := w) (R := gx) (j := k) (u := .int .i64 z)
  have l0 := (own_lt h.a gx rfl).1
  refine ⟨h.ls.grown g fun j hj => ?_, ?_, row_block h.b fun r hr => g.block r (own_lt h.b r hr).2 fun q => ?_, h.fx, h.fy, h.xy⟩
  · injection hj with hj
    subst hj
    exact ⟨l0, h.fx⟩
  · have e : iv (Th.set k z) = (iv Th).set k (.int .i64 z) := by simp [iv, List.map_set]
    rw [e]
    exact (World.ownsRow.stored h.a k (.int .i64 z)).1
  · injection hr with hr
    injection q with q
    have hr' : gy = r := hr
    exact h.xy (by rw [hr', q])
theorem Kb.sety {w0 w : World} {p d N gx cx gy cy : Nat} {F : Nat → Prop} {s : St} {Th : List Int} {By : List Str} (h : Kb w0 w p d F N s gx cx gy cy Th By) (k : Nat) (z : Str) : Kb w0 (w.setCell ⟨gy, k, none⟩ (.string ⟨z.toArray⟩)) p d F N s gx cx gy cy Th (By.set k z) := by
  have g := grown_setCell (w := w) (R := gy) (j := k) (u := .string ⟨z.toArray⟩)
  have l0 := (own_lt h.b gy rfl).1
  refine ⟨h.ls.grown g fun j hj => ?_, row_block h.a fun r hr => g.block r (own_lt h.a r hr).2 fun q => ?_, ?_, h.fx, h.fy, h.xy⟩
  · injection hj with hj
    subst hj
    exact ⟨l0, h.fy⟩
  · injection hr with hr
    injection q with q
    have hr' : gx = r := hr
    exact h.xy (by rw [hr', q])
  · rw [sv_set]
    exact (World.ownsRow.stored h.b k (.string ⟨z.toArray⟩)).1
theorem Kb.cells {w0 w : World} {p d N gx cx gy cy : Nat} {F : Nat → Prop} {s : St} {Th : List Int} {By : List Str} (h : Kb w0 w p d F N s gx cx gy cy Th By) (k : Nat) (hk : k < 4) : w.cell? ⟨gx, k, none⟩ = some (.int .i64 (Th.getD k 0)) ∧ w.cell? ⟨gy, k, none⟩ = some (.string ⟨(By.getD k []).toArray⟩) ∧ w.frozen? ⟨gx, k, none⟩ = false ∧ w.frozen? ⟨gy, k, none⟩ = false := by
  have t1 : Th.length = 4 := by have := h.a.1; rw [iv_length] at this; omega
  have t2 : By.length = 4 := by have := h.b.1; rw [sv_length] at this; omega
  refine ⟨?_, ?_, World.ownsRow.frozenAt h.a k, World.ownsRow.frozenAt h.b k⟩
  · rw [World.ownsRow.cellAt h.a k (by omega), iv_get Th k (by omega)]
  · rw [World.ownsRow.cellAt h.b k (by omega), sv_get By k (by omega)]
theorem sum_take (l : List Int) (k : Nat) (h : k < l.length) : (l.take (k + 1)).sum = (l.take k).sum + l.getD k 0 := by
  rw [List.take_succ_eq_append_getElem h, List.sum_append]
  simp [List.getD_eq_getElem?_getD, List.getElem?_eq_getElem h]
set_option maxRecDepth 100000 in
set_option maxHeartbeats 3200000 in
theorem holdsL_any (w0 w : World) (p d N gx cx gy cy n : Nat) (st : Bool) (op part : Int) (F : Nat → Prop) (M : List (Str × Str)) (Th : List Int) (By : List Str) (hI : KI M Th By) (h : Kb w0 w p d F N (bS M n false st op part) gx cx gy cy Th By) (hN : N ≤ 140737488355328) (hcx : 4 ≤ cx ∧ cx ≤ 9223372036854775807) (hcy : 4 ≤ cy ∧ cy ≤ 9223372036854775807) :
    Calls Try.prog 24 #[.pointer (some ⟨p, 0, none⟩), .slice (some ⟨gx, 0, none⟩) 4 cx, .slice (some ⟨gy, 0, none⟩) 4 cy] w fun e w' => e = .returned (.bool true) ∧ Below w.heap.size w w' := by
  have mixed : Try.prog.follows .mixedOrders = true := by kernel_rfl
  have HI : Hid (KI M Th By) := hI
  have HK : Hid (Kb w0 w p d F N (bS M n false st op part) gx cx gy cy Th By) := h
  obtain ⟨hcx1, hcx2⟩ := hcx
  obtain ⟨hcy1, hcy2⟩ := hcy
  clear hI h
  go_enter Try.func24, Try.ntmps24
  go_wp2_with fail
  go_loopg [7, 8, 9, 10] 4 (fun kx v7 v8 _ _ wr => ∃ (k m : Nat), v7 = .int .i64 (m : Int) ∧ v8 = .int .i64 (k : Int) ∧ k ≤ 4 ∧ 4 - k ≤ kx ∧ m ≤ k ∧ Hid ((m : Int) = (Th.take k).sum) ∧ Hid (Below w.heap.size w wr))
  case atStart => exact ⟨0, 0, rfl, rfl, by omega, Nat.le_refl _, Nat.le_refl _, by apply hide; simp, Below.refl _ _⟩
  case round =>
    obtain ⟨k, m, rfl, rfl, hk, hkx, hmk, HS, HB⟩ := hrel
    by_cases hlt : k < 4
    · have hltz : (k : Int) < 4 := by omega
      have kN := name_any wr k hlt
      obtain ⟨f1, f2, -⟩ := nmS_facts k hlt
      have HF : Hid (bNm (nmS k) = true ∧ (nmS k).length ≤ 3) := ⟨f1, f2⟩
      have HST : Hid ((Th.take (k + 1)).sum = (Th.take k).sum + Th.getD k 0) := sum_take Th k (by rw [HI.out.tl]; exact hlt)
      have HW1 : Hid (wrap64 ((k : Int) + 1) = (k : Int) + 1) := by apply hide; rw [← IntWalk.i64_left, IntKind.wrap_i64]; omega
      clear f1 f2
      go_wp2_with fail
      refine kN.mono ?_
      rintro e w1 ⟨rfl, b1⟩
      have HB1 : Hid (Below w.heap.size w w1) := HB.out.trans (b1.mono HB.out.size)
      have h1 := HK.out.below HB1.out
      have kG := get_ls w0 w1 p d N F (bS M n false st op part) (nmS k) h1.ls (Nat.le_trans HF.out.2 (by decide)) hN
      have HY : Hid (Th.getD k 0 = 1 → bget (bS M n false st op part) (nmS k) = (0, By.getD k [])) := fun e => bget_in (M := M) rfl HI.out.bl rfl (HI.out.yes k hlt e)
      have HNo : Hid (Th.getD k 0 = 0 → bget (bS M n false st op part) (nmS k) = (120, [])) := fun e => bget_out (M := M) rfl rfl HF.out.1 (HI.out.no k hlt e)
      have HC : Hid (∀ w', Below w.heap.size w w' → w'.cell? ⟨gx, k, none⟩ = some (.int .i64 (Th.getD k 0)) ∧ w'.cell? ⟨gy, k, none⟩ = some (.string ⟨(By.getD k []).toArray⟩)) := fun w' hb => ⟨((HK.out.below hb).cells k hlt).1, ((HK.out.below hb).cells k hlt).2.1⟩
      have HT : Hid (Th.getD k 0 = 0 ∨ Th.getD k 0 = 1) := HI.out.t01 k hlt
      obtain ⟨t, ht⟩ : ∃ t, t = Th.getD k 0 := ⟨_, rfl⟩
      obtain ⟨y, hy⟩ : ∃ y, y = By.getD k [] := ⟨_, rfl⟩
      obtain ⟨q, hq⟩ : ∃ q, q = nmS k := ⟨_, rfl⟩
      rw [← ht] at HST HC HT HY HNo
      rw [← hy] at HC HY
      rw [← hq] at kG HY HNo
      rw [← hq]
      clear kN b1 h1 ht hy hq HF
      rcases HT.out with rfl | rfl
      · rw [HNo.out rfl] at kG
        go_wp2_with fail
        refine kG.mono ?_
        rintro e w2 ⟨v2, rfl, o2, b2⟩
        have HB2 : Hid (Below w.heap.size w w2) := HB1.out.trans (b2.mono HB1.out.size)
        obtain ⟨za, zc, hz2, -⟩ := o2.reads
        have zcv := fun nq os => conv_string (Go.Sort.grow (w2.drewN nq) os) v2 _ (o2.reads.below (below_gr w2 nq os))
        obtain ⟨c0, c1⟩ := HC.out w2 HB2.out
        have z0 := fun nq os => cell_gro c0 nq os
        have z1 := fun nq os => cell_gro c1 nq os
        subst hz2
        clear kG o2 b2 c0 c1
        go_wp2_with fail
        refine wp_region_quiet_grown (by assumption) (by kernel_rfl) ?_
        repeat (go_big_quiet_step (fail))
        refine wpQuiet_nil ?_
        intro T hw'
        obtain ⟨⟨nq, osq⟩, hw''⟩ := hw'
        have HBT : Hid (Below w.heap.size w T) := by apply hide; rw [hw'']; exact HB2.out.trans ((below_gr w2 nq osq).mono HB2.out.size)
        have cT := (HC.out T HBT.out).1
        clear hw'' zcv z0 z1
        have hwm : wrap64 ((m : Int) + 0) = (m : Int) + 0 := by rw [← IntWalk.i64_left, IntKind.wrap_i64]; omega
        have HWM : Hid (wrap64 ((m : Int) + 0) = (m : Int) + 0) := hwm
        clear hwm
        go_wp2_with fail
        go_roundg (4 - (k + 1))
        case measure => exact Nat.lt_of_lt_of_le (Nat.sub_lt_sub_left hlt (Nat.lt_succ_self k)) hkx
        case rel => exact ⟨k + 1, m + 0, by first | (rw [HWM.out]; rfl) | rfl | go_num, by first | (rw [HW1.out]; rfl) | rfl, hlt, Nat.le_refl _, by omega, by apply hide; rw [HST.out, ← HS.out]; first | rfl | simp, HBT⟩
      · rw [HY.out rfl] at kG
        go_wp2_with fail
        refine kG.mono ?_
        rintro e w2 ⟨v2, rfl, o2, b2⟩
        have HB2 : Hid (Below w.heap.size w w2) := HB1.out.trans (b2.mono HB1.out.size)
        obtain ⟨za, zc, hz2, -⟩ := o2.reads
        have zcv := fun nq os => conv_string (Go.Sort.grow (w2.drewN nq) os) v2 _ (o2.reads.below (below_gr w2 nq os))
        obtain ⟨c0, c1⟩ := HC.out w2 HB2.out
        have z0 := fun nq os => cell_gro c0 nq os
        have z1 := fun nq os => cell_gro c1 nq os
        subst hz2
        clear kG o2 b2 c0 c1
        go_wp2_with fail
        refine wp_region_quiet_grown (by assumption) (by kernel_rfl) ?_
        repeat (go_big_quiet_step (fail))
        refine wpQuiet_nil ?_
        intro T hw'
        obtain ⟨⟨nq, osq⟩, hw''⟩ := hw'
        have HBT : Hid (Below w.heap.size w T) := by apply hide; rw [hw'']; exact HB2.out.trans ((below_gr w2 nq osq).mono HB2.out.size)
        have cT := (HC.out T HBT.out).1
        clear hw'' zcv z0 z1
        have hwm : wrap64 ((m : Int) + 1) = (m : Int) + 1 := by rw [← IntWalk.i64_left, IntKind.wrap_i64]; omega
        have HWM : Hid (wrap64 ((m : Int) + 1) = (m : Int) + 1) := hwm
        clear hwm
        go_wp2_with fail
        go_roundg (4 - (k + 1))
        case measure => exact Nat.lt_of_lt_of_le (Nat.sub_lt_sub_left hlt (Nat.lt_succ_self k)) hkx
        case rel => exact ⟨k + 1, m + 1, by first | (rw [HWM.out]; rfl) | rfl | go_num, by first | (rw [HW1.out]; rfl) | rfl, hlt, Nat.le_refl _, by omega, by apply hide; rw [HST.out, ← HS.out]; first | rfl | simp, HBT⟩
    · have hltz : ¬ (k : Int) < 4 := by omega
      have hk4 : k = 4 := by omega
      have kL := list_ls w0 wr p d N F (bS M n false st op part) (HK.out.below HB.out).ls
      have HBL : Hid ((blist (bS M n false st op part)).length = m) := by
        apply hide
        have h1 := blist_b (s := bS M n false st op part) (M := M) rfl rfl HI.out.bl
        have h2 := HS.out
        rw [hk4, List.take_of_length_le (by rw [HI.out.tl]; exact Nat.le_refl _), ← HI.out.len] at h2
        omega
      clear hk4
      go_wp2_with fail
      refine kL.mono ?_
      rintro e w5 ⟨lv, rfl, o5, b5⟩
      obtain ⟨la, lc, hlv, -⟩ := o5.rds.len
      rw [HBL.out] at hlv
      subst hlv
      have HB5 : Hid (Below w.heap.size w w5) := HB.out.trans (b5.mono HB.out.size)
      clear kL o5 b5
      go_wp2_with fail
      go_ret
      exact ⟨by first | rfl | simp, HB5.out⟩
end Go.Proofs.Ythegdhbmfojdaaa
