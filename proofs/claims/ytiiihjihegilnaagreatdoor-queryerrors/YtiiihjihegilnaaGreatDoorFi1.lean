/- What the texts of filter hold, over this program's numbers. -/
import Derived.Test.YtiiihjihegilnaaGreatDoorFi0
namespace Go.Proofs.YtiiihjihegilnaaGreatDoor.Fi
open Go.RowKit Go.Sort Go.ChangeShapes Go.WideShapes

def longs (ts : List Str) : Bool := ts.any fun s => decide (64 < s.length)
theorem longs_true {ts : List Str} {i : Nat} (h : i < ts.length) (hl : 64 < (ts.getD i []).length) : longs ts = true := by
  unfold longs
  rw [List.any_eq_true]
  refine ⟨ts[i], List.getElem_mem h, decide_eq_true ?_⟩
  rwa [getD_at h] at hl
theorem longs_false {ts : List Str} (h : ∀ i, i < ts.length → ¬ 64 < (ts.getD i []).length) : longs ts = false := by
  unfold longs
  rw [List.any_eq_false]
  intro s hs
  obtain ⟨i, hi, rfl⟩ := List.mem_iff_getElem.1 hs
  have := h i hi
  rw [getD_at hi] at this
  simp [this]

set_option maxHeartbeats 1600000 in
theorem idxlong_any (w : World) (v : Value) (ts : List Str) (h : Rds w v (sv ts)) :
    Calls Tryz.prog 77 #[v, .func (.func 69) #[] #[]] w fun e w' => ∃ i : Int, e = .returned (.int .i64 i) ∧ decide (0 ≤ i) = longs ts ∧ w' = w := by
  obtain ⟨ao, n, cap, rfl⟩ := h.sl
  obtain ⟨hn, hc1, hc2, hc3⟩ := h.cells
  rw [sv_length] at hn hc1
  rw [← hn] at hc1
  unfold maxLen at hc2
  have HN : Hid (n = ts.length) := hn
  have HH : Aside (∀ i, i < ts.length → ∃ b off, ao = some ⟨b, off, none⟩ ∧ w.cell? ⟨b, off + i, none⟩ = some (.string ⟨(ts.getD i []).toArray⟩)) := fun i hi => by
    obtain ⟨b, off, e, hc⟩ := hc3 (by rw [sv_length]; omega)
    exact ⟨b, off, e, hc i _ (sv_get ts i hi)⟩
  clear h hn hc3
  go_enter Tryz.func77, Tryz.ntmps77
  go_wp2_with fail
  go_loopg [8] n (fun kx v8 wr => ∃ i : Nat, v8 = .int .i64 i ∧ i ≤ n ∧ n - i ≤ kx ∧ Hid (∀ j, j < i → ¬ 64 < (ts.getD j []).length) ∧ Hid (wr = w))
  case atStart => exact ⟨0, rfl, by omega, Nat.le_refl _, fun j hj => by omega, rfl⟩
  case round =>
    obtain ⟨i, rfl, hi, hkx, HJ, HW⟩ := hrel
    have hw := HW.out
    subst hw
    by_cases hlt : i < n
    · have hltz : (i : Int) < (n : Int) := by omega
      have hil : i < ts.length := by have := HN.out; omega
      obtain ⟨b, off, rfl, q⟩ := HH.out i hil
      have kT := long_any wr (ts.getD i [])
      generalize hs : ts.getD i [] = s at *
      have HS : Hid (ts.getD i [] = s) := hs
      clear hs
      by_cases hlg : 64 < s.length
      · rw [decide_eq_true hlg] at kT
        have HLG : Hid (64 < s.length) := hlg
        clear hlg
        go_wp2_with fail
        refine kT.mono ?_
        rintro e w5 ⟨rfl, rfl⟩
        go_wp2_with fail
        go_ret
        refine ⟨_, rfl, ?_, rfl⟩
        rw [longs_true hil (by rw [HS.out]; exact HLG.out)]
        exact decide_eq_true (by omega)
      · rw [decide_eq_false hlg] at kT
        have HLG : Hid (¬ 64 < s.length) := hlg
        clear hlg
        go_wp2_with fail
        refine kT.mono ?_
        rintro e w5 ⟨rfl, rfl⟩
        go_wp2_with fail
        go_roundg (n - (i + 1))
        case measure => omega
        case rel =>
          refine ⟨i + 1, by go_num, by omega, Nat.le_refl _, fun j hj => ?_, hide rfl⟩
          by_cases hji : j = i
          · subst hji; rw [HS.out]; exact HLG.out
          · exact HJ.out j (by omega)
    · have hltz : ¬ (i : Int) < (n : Int) := by omega
      go_wp2_with fail
      go_ret
      refine ⟨_, rfl, ?_, rfl⟩
      rw [longs_false fun j hj => HJ.out j (by have := HN.out; omega)]
      rfl
set_option maxHeartbeats 800000 in
theorem haslong_any (w : World) (v : Value) (ts : List Str) (h : Rds w v (sv ts)) :
    Calls Tryz.prog 68 #[v, .func (.func 69) #[] #[]] w fun e w' => e = .returned (.bool (longs ts)) ∧ w' = w := by
  have kI := idxlong_any w v ts h
  obtain ⟨ao, n, cap, rfl⟩ := h.sl
  clear h
  go_enter Tryz.func68, Tryz.ntmps68
  go_wp2_with fail
  refine kI.mono ?_
  rintro e w5 ⟨i, rfl, hi, rfl⟩
  have HI : Hid _ := hi
  clear hi kI
  go_wp2_with fail
  go_ret
  refine ⟨?_, rfl⟩
  have h1 : longs ts = decide (0 ≤ i) := HI.out.symm
  rw [h1]
  rfl
/-- May a part by itself be? D, M: the schema's. -/
def Tr.fit (D M : Int) (t : Tr) : Bool :=
  if t.k = 1 ∨ t.k = 3 ∨ t.k = 4 then true
  else if t.k = 2 then decide (t.ks.length = 1)
  else if t.k = 8 then decide (0 ≤ t.d ∧ t.d < M)
  else if t.k = 6 then decide (t.ts.length = 2) && (decide (0 ≤ t.d ∧ t.d < D) && !longs t.ts)
  else if t.k = 7 then decide (t.ts.length = 1) && (decide (0 ≤ t.d ∧ t.d < D) && !longs t.ts)
  else if t.k = 5 then decide (0 ≤ t.d ∧ t.d < D) && !longs t.ts
  else false
theorem Rds.len {w : World} {a : Option Addr} {n c : Nat} {xs : List Value} (h : Rds w (.slice a n c) xs) : n = xs.length := by
  obtain ⟨ao, cap, he, _⟩ := h
  cases he; rfl

set_option maxHeartbeats 4000000 in
theorem fits_any (w : World) (D M : Int) (t : Tr) (h : t.Ok w) :
    Calls Tryz.prog 61 #[.agg #[.int .i64 D, .int .i64 M], .agg #[.int .i64 t.k, .int .i64 t.d, t.tv, .int .i64 t.lo, .int .i64 t.hi, t.kv]] w fun e w' => e = .returned (.bool (t.fit D M)) ∧ Grows w w' := by
  obtain ⟨at', nt, ct, ak, nk, ck, e1, e2, hnk, -, -, -⟩ := h.lens
  obtain ⟨W, hW⟩ : ∃ W, W = (w.alloc (.cells #[.int .i64 D, .int .i64 M] 23)).alloc (.cells #[.int .i64 t.k, .int .i64 t.d, t.tv, .int .i64 t.lo, .int .i64 t.hi, t.kv] 29) := ⟨_, rfl⟩
  have gW : Grows w W := by rw [hW]; exact (Grows.alloc _ _).trans (Grows.alloc _ _)
  have hl := haslong_any W t.tv t.ts (h.up gW.below).rt
  have hnt : nt = t.ts.length := by have := h.rt; rw [e1] at this; have := this.len; rwa [sv_length] at this
  have kM := within_any W t.d M
  have kD := within_any W t.d D
  have HG : Hid (Grows w W) := gW
  have HW : Hid _ := hW
  rw [e1] at hl
  rw [hW, e1, e2] at hl kM kD
  rw [e1, e2] at HW ⊢
  have hfit : t.fit D M = if t.k = 1 ∨ t.k = 3 ∨ t.k = 4 then true
    else if t.k = 2 then decide (nk = 1)
    else if t.k = 8 then decide (0 ≤ t.d ∧ t.d < M)
    else if t.k = 6 then decide (nt = 2) && (decide (0 ≤ t.d ∧ t.d < D) && !longs t.ts)
    else if t.k = 7 then decide (nt = 1) && (decide (0 ≤ t.d ∧ t.d < D) && !longs t.ts)
    else if t.k = 5 then decide (0 ≤ t.d ∧ t.d < D) && !longs t.ts
    else false := by unfold Tr.fit; rw [hnk, hnt]
  rw [hfit]
  clear h gW hW hfit e1 e2 hnk hnt
  generalize longs t.ts = Lg at *
  generalize decide (0 ≤ t.d ∧ t.d < M) = bM at *
  generalize decide (0 ≤ t.d ∧ t.d < D) = bD at *
  generalize t.k = k at *
  generalize t.d = d at *
  generalize t.lo = lo at *
  generalize t.hi = hi at *
  by_cases h1 : k = 1 ∨ k = 3 ∨ k = 4
  · rw [if_pos h1]
    clear hl kM kD
    rcases h1 with rfl | rfl | rfl <;>
      (go_enter Tryz.func61, Tryz.ntmps61
       go_wp2_with fail
       rw [← HW.out]
       go_ret
       exact ⟨rfl, HG.out⟩)
  · rw [if_neg h1]
    have c1 : (k == 1) = false := by simp; omega
    have c3 : (k == 3) = false := by simp; omega
    have c4 : (k == 4) = false := by simp; omega
    by_cases h2 : k = 2
    · rw [if_pos h2]
      subst h2
      have hd : ((nk : Int) == 1) = decide (nk = 1) := by
        by_cases hn : nk = 1
        · simp [hn]
        · rw [decide_eq_false hn]; simp; omega
      clear hl kM kD c1 c3 c4 h1
      rw [← hd]
      clear hd
      go_enter Tryz.func61, Tryz.ntmps61
      go_wp2_with fail
      rw [← HW.out]
      go_ret
      exact ⟨rfl, HG.out⟩
    · rw [if_neg h2]
      have c2 : (k == 2) = false := by simp; omega
      by_cases h8 : k = 8
      · rw [if_pos h8]
        subst h8
        clear hl kD c1 c2 c3 c4 h1 h2
        go_enter Tryz.func61, Tryz.ntmps61
        go_wp2_with fail
        refine kM.mono ?_
        rintro e w5 ⟨rfl, rfl⟩
        rw [← HW.out]
        go_wp2_with fail
        go_ret
        exact ⟨rfl, HG.out⟩
      · rw [if_neg h8]
        have c8 : (k == 8) = false := by simp; omega
        clear kM
        by_cases h6 : k = 6
        · rw [if_pos h6]
          subst h6
          clear c1 c2 c3 c4 c8 h1 h2 h8
          by_cases hn : nt = 2
          · have hnb : ((nt : Int) != 2) = false := by simp [hn]
            rw [decide_eq_true hn]
            clear hn
            go_enter Tryz.func61, Tryz.ntmps61
            go_wp2_with fail
            refine kD.mono ?_
            rintro e w5 ⟨rfl, rfl⟩
            cases bD with
            | true =>
              go_wp2_with fail
              refine hl.mono ?_
              rintro e w6 ⟨rfl, rfl⟩
              rw [← HW.out]
              go_wp2_with fail
              go_ret
              exact ⟨rfl, HG.out⟩
            | false =>
              rw [← HW.out]
              go_wp2_with fail
              go_ret
              exact ⟨rfl, HG.out⟩
          · have hnb : ((nt : Int) != 2) = true := by simp; omega
            rw [decide_eq_false hn]
            clear hn
            go_enter Tryz.func61, Tryz.ntmps61
            go_wp2_with fail
            rw [← HW.out]
            go_ret
            exact ⟨rfl, HG.out⟩
        · rw [if_neg h6]
          have c6 : (k == 6) = false := by simp; omega
          by_cases h7 : k = 7
          · rw [if_pos h7]
            subst h7
            clear c1 c2 c3 c4 c8 c6 h1 h2 h8 h6
            by_cases hn : nt = 1
            · have hnb : ((nt : Int) != 1) = false := by simp [hn]
              rw [decide_eq_true hn]
              clear hn
              go_enter Tryz.func61, Tryz.ntmps61
              go_wp2_with fail
              refine kD.mono ?_
              rintro e w5 ⟨rfl, rfl⟩
              cases bD with
              | true =>
                go_wp2_with fail
                refine hl.mono ?_
                rintro e w6 ⟨rfl, rfl⟩
                rw [← HW.out]
                go_wp2_with fail
                go_ret
                exact ⟨rfl, HG.out⟩
              | false =>
                rw [← HW.out]
                go_wp2_with fail
                go_ret
                exact ⟨rfl, HG.out⟩
            · have hnb : ((nt : Int) != 1) = true := by simp; omega
              rw [decide_eq_false hn]
              clear hn
              go_enter Tryz.func61, Tryz.ntmps61
              go_wp2_with fail
              rw [← HW.out]
              go_ret
              exact ⟨rfl, HG.out⟩
          · rw [if_neg h7]
            have c7 : (k == 7) = false := by simp; omega
            by_cases h5 : k = 5
            · rw [if_pos h5]
              subst h5
              clear c1 c2 c3 c4 c8 c6 c7 h1 h2 h8 h6 h7
              go_enter Tryz.func61, Tryz.ntmps61
              go_wp2_with fail
              refine kD.mono ?_
              rintro e w5 ⟨rfl, rfl⟩
              cases bD with
              | true =>
                go_wp2_with fail
                refine hl.mono ?_
                rintro e w6 ⟨rfl, rfl⟩
                rw [← HW.out]
                go_wp2_with fail
                go_ret
                exact ⟨rfl, HG.out⟩
              | false =>
                rw [← HW.out]
                go_wp2_with fail
                go_ret
                exact ⟨rfl, HG.out⟩
            · rw [if_neg h5]
              have c5 : (k == 5) = false := by simp; omega
              clear hl kD h1 h2 h8 h6 h7 h5
              go_enter Tryz.func61, Tryz.ntmps61
              go_wp2_with fail
              rw [← HW.out]
              go_ret
              exact ⟨rfl, HG.out⟩
theorem cell_gr {w : World} {a : Addr} {v : Value} (h : w.cell? a = some v) (n : Nat) (os : Array Obj) : (grow (w.drewN n) os).cell? a = some v := cell_grown (World.block_lt_of_cell? _ _ h) h n os
/-- May a filter be, but for depth and size? -/
def Tr.fitA (D M : Int) (t : Tr) : Bool := t.fit D M && (t.kids.attach.map fun c => c.1.fitA D M).all id
termination_by SizeOf.sizeOf t
decreasing_by exact kids_lt c.2
def fitL (D M : Int) (l : List Tr) : Bool := (l.map (Tr.fitA D M)).all id
theorem Tr.fitA_eq (D M : Int) (t : Tr) : t.fitA D M = (t.fit D M && fitL D M t.kids) := by
  rw [Tr.fitA]; unfold fitL
  rw [List.attach_map_val (f := Tr.fitA D M)]
theorem fitL_false {D M : Int} {l : List Tr} {i : Nat} (h : i < l.length) (hf : l[i].fitA D M = false) : fitL D M l = false := by
  unfold fitL
  rw [List.all_eq_false]
  exact ⟨_, List.mem_map.2 ⟨l[i], List.getElem_mem h, rfl⟩, by simp [hf]⟩
theorem fitL_true {D M : Int} {l : List Tr} (h : ∀ i (hi : i < l.length), l[i].fitA D M = true) : fitL D M l = true := by
  unfold fitL
  rw [List.all_eq_true]
  intro x hx
  obtain ⟨t, ht, rfl⟩ := List.mem_map.1 hx
  obtain ⟨i, hi, rfl⟩ := List.mem_iff_getElem.1 ht
  exact h i hi

set_option maxHeartbeats 8000000 in
theorem allfit_any (D M : Int) : ∀ (N : Nat) (l : List Tr), (∀ t ∈ l, SizeOf.sizeOf t < N) → ∀ (w : World) (v : Value), RdsT w v l →
    Calls Tryz.prog 49 #[.agg #[.int .i64 D, .int .i64 M], v] w fun e w' => e = .returned (.bool (fitL D M l)) ∧ Grows w w' := by
  intro N
  induction N with
  | zero =>
    intro l hl w v h
    have : l = [] := by
      cases l with
      | nil => rfl
      | cons t l => have := hl t (by simp); omega
    subst this
    obtain ⟨ao, n, cap, rfl⟩ := h.sl
    obtain ⟨hn, -, -⟩ := h.len
    simp only [List.length_nil] at hn
    subst hn
    have HG0 : Hid (Grows w (w.alloc (.cells #[.int .i64 D, .int .i64 M] 23))) := Grows.alloc _ _
    go_enter Tryz.func49, Tryz.ntmps49
    go_wp2_with fail
    go_loopg [9] 0 (fun kx v10 wr => v10 = .int .i64 0 ∧ Hid (Grows w wr))
    case atStart => exact ⟨rfl, HG0⟩
    case round =>
      obtain ⟨rfl, HG⟩ := hrel
      go_wp2_with fail
      go_ret
      exact ⟨rfl, HG.out⟩
  | succ N ih =>
    intro l hl w v h
    obtain ⟨ao, n, cap, rfl⟩ := h.sl
    obtain ⟨hn, hc1, hc2⟩ := h.len
    unfold maxLen at hc2
    obtain ⟨W, hW⟩ : ∃ W, W = w.alloc (.cells #[.int .i64 D, .int .i64 M] 23) := ⟨_, rfl⟩
    have gW : Grows w W := by rw [hW]; exact Grows.alloc _ _
    have hbox : ∀ w5, Below W.heap.size W w5 → w5.cell? ⟨w.heap.size, 0, none⟩ = some (.int .i64 D) ∧ w5.cell? ⟨w.heap.size, 1, none⟩ = some (.int .i64 M) := fun w5 h5 => by
      have hlt5 : w.heap.size < W.heap.size := by rw [hW]; simp
      refine ⟨?_, ?_⟩ <;> (rw [h5.cell (by exact hlt5), hW]; simp)
    have HBX : Aside _ := hbox
    have HN : Hid (n = l.length) := hn
    have HH : Hid (RdsT W (.slice ao n cap) l) := h.below gW.below
    have HI : Aside _ := ih
    have HL : Aside (∀ t ∈ l, SizeOf.sizeOf t < N + 1) := hl
    have HGW : Hid (Grows w W) := gW
    have HW : Hid _ := hW
    have mixed : Tryz.prog.follows .mixedOrders = true := by kernel_rfl
    clear h hn ih hl gW hW hbox
    go_enter Tryz.func49, Tryz.ntmps49
    go_wp2_with fail
    rw [← HW.out]
    go_loopg [9] n (fun kx v9 wr => ∃ i : Nat, v9 = .int .i64 i ∧ i ≤ n ∧ n - i ≤ kx ∧ Hid (∀ j (hj : j < l.length), j < i → l[j].fitA D M = true) ∧ Hid (Grows W wr))
    case atStart => exact ⟨0, rfl, by omega, Nat.le_refl _, fun j _ hj => by omega, Grows.refl _⟩
    case round =>
      obtain ⟨i, rfl, hi, hkx, HJ, HG⟩ := hrel
      by_cases hlt : i < n
      · have hltz : (i : Int) < (n : Int) := by omega
        have hil : i < l.length := by have := HN.out; omega
        have hr := RdsT.below HH.out HG.out.below
        obtain ⟨b, off, rfl, hcell⟩ := hr.at (by omega)
        obtain ⟨q0, q1, q2, q3, q4, q5⟩ := hcell i hil
        have ok := hr.ok l[i] (List.getElem_mem hil)
        have hsz := HL.out l[i] (List.getElem_mem hil)
        obtain ⟨x, hx⟩ : ∃ x, x = l[i] := ⟨_, rfl⟩
        rw [← hx] at q0 q1 q2 q3 q4 q5 ok hsz
        have HX : Hid (x = l[i]) := hx
        clear hx
        obtain ⟨at', nt, ct, ak, nk, ck, e1, e2, -, -, -, -⟩ := ok.lens
        obtain ⟨V, hV⟩ : ∃ V, V = wr.alloc (.cells #[.int .i64 x.k, .int .i64 x.d, x.tv, .int .i64 x.lo, .int .i64 x.hi, x.kv] 29) := ⟨_, rfl⟩
        have gV : Grows wr V := by rw [hV]; exact Grows.alloc _ _
        have okV : ∀ nq os, x.Ok (grow (V.drewN nq) os) := fun nq os => (ok.up gV.below).up (below_grown_sl _ V nq os (Nat.le_refl _))
        have kF : ∀ nq os, Calls Tryz.prog 61 #[.agg #[.int .i64 D, .int .i64 M], .agg #[.int .i64 x.k, .int .i64 x.d, x.tv, .int .i64 x.lo, .int .i64 x.hi, x.kv]] (grow (V.drewN nq) os) fun e w' => e = .returned (.bool (x.fit D M)) ∧ ∃ q os', w' = grow ((grow (V.drewN nq) os).drewN q) os' := fun nq os => fits_any _ D M x (okV nq os)
        have kK : ∀ nq os, Calls Tryz.prog 60 #[.agg #[.int .i64 x.k, .int .i64 x.d, x.tv, .int .i64 x.lo, .int .i64 x.hi, x.kv]] (grow (V.drewN nq) os) fun e w' => e = .returned x.kidv ∧ ∃ q os', w' = grow ((grow (V.drewN nq) os).drewN q) os' := fun nq os => kids_any _ x (okV nq os)
        have kA : ∀ nq os, Calls Tryz.prog 49 #[.agg #[.int .i64 D, .int .i64 M], x.kidv] (grow (V.drewN nq) os) fun e w' => e = .returned (.bool (fitL D M x.kids)) ∧ ∃ q os', w' = grow ((grow (V.drewN nq) os).drewN q) os' := fun nq os => HI.out x.kids (fun t ht => by have := kids_lt ht; omega) _ _ (okV nq os).kids
        obtain ⟨a5, n5, c5, e5⟩ := ok.kids.sl
        obtain ⟨z0, z1⟩ := HBX.out V (HG.out.trans gV).below
        have z0' := fun nq os => cell_gr z0 nq os
        have z1' := fun nq os => cell_gr z1 nq os
        have y : ∀ c u, (#[Value.int .i64 x.k, .int .i64 x.d, x.tv, .int .i64 x.lo, .int .i64 x.hi, x.kv])[c]? = some u → V.cell? ⟨wr.heap.size, c, none⟩ = some u := fun c u hc => by rw [hV]; simpa using hc
        have y0' := fun nq os => cell_gr (y 0 _ rfl) nq os
        have y1' := fun nq os => cell_gr (y 1 _ rfl) nq os
        have y2' := fun nq os => cell_gr (y 2 _ rfl) nq os
        have y3' := fun nq os => cell_gr (y 3 _ rfl) nq os
        have y4' := fun nq os => cell_gr (y 4 _ rfl) nq os
        have y5' := fun nq os => cell_gr (y 5 _ rfl) nq os
        have HA : Hid (x.fitA D M = (x.fit D M && fitL D M x.kids)) := x.fitA_eq D M
        have HGV : Hid (Grows W V) := HG.out.trans gV
        have HV : Hid _ := hV
        rw [e5] at kK kA
        rw [e1, e2] at HV kF kK
        rw [e1] at q2 y2'
        rw [e2] at q5 y5'
        generalize x.fit D M = f1 at *
        generalize fitL D M x.kids = f2 at *
        generalize x.k = xk at *
        generalize x.d = xd at *
        generalize x.lo = xl at *
        generalize x.hi = xh at *
        clear ok hsz hcell hr hV gV okV y z0 z1 e1 e2 e5
        cases f1 with
        | false =>
          go_wp2_with fail
          rw [← HV.out]
          refine wp_region_quiet_grown (by assumption) (by kernel_rfl) ?_
          repeat (go_big_quiet_step (first | (go_at_call 61; refine Calls.grown_of (kF _ _))))
          refine wpQuiet_nil ?_
          intro _ hw'
          obtain ⟨⟨nq, osq⟩, hw''⟩ := hw'
          subst hw''
          go_wp2_with fail
          go_ret
          refine ⟨?_, (HGW.out.trans HGV.out).trans ⟨nq, osq, rfl⟩⟩
          rw [fitL_false hil (by rw [← HX.out, HA.out]; rfl)]
          rfl
        | true =>
          cases f2 with
          | false =>
            go_wp2_with fail
            rw [← HV.out]
            refine wp_region_quiet_grown (by assumption) (by kernel_rfl) ?_
            repeat (go_big_quiet_step (first | (go_at_call 61; refine Calls.grown_of (kF _ _)) | (go_at_call 60; refine Calls.grown_of (kK _ _)) | (go_at_call 49; refine Calls.grown_of (kA _ _))))
            refine wpQuiet_nil ?_
            intro _ hw'
            obtain ⟨⟨nq, osq⟩, hw''⟩ := hw'
            subst hw''
            go_wp2_with fail
            go_ret
            refine ⟨?_, (HGW.out.trans HGV.out).trans ⟨nq, osq, rfl⟩⟩
            rw [fitL_false hil (by rw [← HX.out, HA.out]; rfl)]
            rfl
          | true =>
            go_wp2_with fail
            rw [← HV.out]
            refine wp_region_quiet_grown (by assumption) (by kernel_rfl) ?_
            repeat (go_big_quiet_step (first | (go_at_call 61; refine Calls.grown_of (kF _ _)) | (go_at_call 60; refine Calls.grown_of (kK _ _)) | (go_at_call 49; refine Calls.grown_of (kA _ _))))
            refine wpQuiet_nil ?_
            intro _ hw'
            obtain ⟨⟨nq, osq⟩, hw''⟩ := hw'
            subst hw''
            go_wp2_with fail
            go_roundg (n - (i + 1))
            case measure => omega
            case rel =>
              refine ⟨i + 1, by go_num, by omega, Nat.le_refl _, fun j hj h => ?_, HGV.out.trans ⟨nq, osq, rfl⟩⟩
              by_cases hji : j = i
              · subst hji
                rw [← HX.out, HA.out]; rfl
              · exact HJ.out j hj (by omega)
      · have hltz : ¬ (i : Int) < (n : Int) := by omega
        go_wp2_with fail
        go_ret
        refine ⟨?_, HGW.out.trans HG.out⟩
        rw [fitL_true fun j hj => HJ.out j hj (by have := HN.out; omega)]
        rfl
/-- May a filter be? -/
def Tr.may (D M : Int) (t : Tr) : Bool := decide (t.sz ≤ 200) && (decide (t.dp ≤ 20) && t.fitA D M)
def errB (b : Bool) : Int := if b then 0 else 1
theorem fitL_one (D M : Int) (t : Tr) : fitL D M [t] = t.fitA D M := by simp [fitL]

set_option maxHeartbeats 4000000 in
theorem check_any (w : World) (D M : Int) (t : Tr) (h : t.Ok w) :
    Calls Tryz.prog 34 #[.agg #[.int .i64 D, .int .i64 M], .agg #[.int .i64 t.k, .int .i64 t.d, t.tv, .int .i64 t.lo, .int .i64 t.hi, t.kv]] w fun e w' => e = .returned (.int .i64 (errB (t.may D M))) ∧ Grows w w' := by
  obtain ⟨at', nt, ct, ak, nk, ck, e1, e2, -, -, -, -⟩ := h.lens
  obtain ⟨W, hW⟩ : ∃ W, W = (w.alloc (.cells #[.int .i64 D, .int .i64 M] 23)).alloc (.cells #[.int .i64 t.k, .int .i64 t.d, t.tv, .int .i64 t.lo, .int .i64 t.hi, t.kv] 29) := ⟨_, rfl⟩
  have gW : Grows w W := by rw [hW]; exact (Grows.alloc _ _).trans (Grows.alloc _ _)
  have zW : W.heap.size = w.heap.size + 2 := by rw [hW]; simp
  have hbox : ∀ w5, Below W.heap.size W w5 → (w5.cell? ⟨w.heap.size, 0, none⟩ = some (.int .i64 D) ∧ w5.cell? ⟨w.heap.size, 1, none⟩ = some (.int .i64 M)) ∧ ∀ c u, (#[Value.int .i64 t.k, .int .i64 t.d, t.tv, .int .i64 t.lo, .int .i64 t.hi, t.kv])[c]? = some u → w5.cell? ⟨w.heap.size + 1, c, none⟩ = some u := fun w5 h5 => by
    refine ⟨⟨?_, ?_⟩, fun c u hc => ?_⟩
    · rw [h5.cell (by rw [zW]; show w.heap.size < _; omega), hW]; simp
    · rw [h5.cell (by rw [zW]; show w.heap.size < _; omega), hW]; simp
    · rw [h5.cell (by rw [zW]; show w.heap.size + 1 < _; omega), hW]
      have hs : w.heap.size + 1 = (w.alloc (.cells #[.int .i64 D, .int .i64 M] 23)).heap.size := by simp
      rw [hs]
      simpa using hc
  have kS := size_any W t (h.up gW.below)
  have HBX : Aside _ := hbox
  have HG : Hid (Grows w W) := gW
  have HW : Hid _ := hW
  have HO : Hid (t.Ok W) := h.up gW.below
  have HE : Hid (t.tv = .slice at' nt ct ∧ t.kv = .slice ak nk ck) := ⟨e1, e2⟩
  obtain ⟨S, hS⟩ : ∃ S, S = min 201 t.sz := ⟨_, rfl⟩
  rw [← hS] at kS
  have HS : Hid (S = min 201 t.sz) := hS
  have hS1 : S ≤ 201 := by omega
  rw [hW, e1, e2] at kS
  rw [e1, e2] at HW ⊢
  clear h gW hW hbox zW e1 e2 hS
  go_enter Tryz.func34, Tryz.ntmps34
  go_wp2_with fail
  refine kS.mono ?_
  rintro e w5 ⟨rfl, g5⟩
  rw [← HW.out] at g5
  by_cases h2 : (200 : Int) < (S : Int)
  · have h2d : decide ((200 : Int) < (S : Int)) = true := decide_eq_true h2
    have HM : Hid (t.may D M = false) := by show _ = _; unfold Tr.may; rw [decide_eq_false (by have := HS.out; omega)]; rfl
    clear kS
    go_wp2_with fail
    go_ret
    exact ⟨by rw [HM.out]; rfl, HG.out.trans g5⟩
  · have h2d : decide ((200 : Int) < (S : Int)) = false := decide_eq_false h2
    have hsz : t.sz ≤ 200 := by have := HS.out; omega
    have HZ : Hid (t.sz ≤ 200) := hsz
    obtain ⟨⟨x0, x1⟩, y⟩ := HBX.out w5 g5.below
    have y0 := y 0 _ rfl
    have y1 := y 1 _ rfl
    have y2 := y 2 _ rfl
    have y3 := y 3 _ rfl
    have y4 := y 4 _ rfl
    have y5 := y 5 _ rfl
    rw [HE.out.1] at y2
    rw [HE.out.2] at y5
    have ok5 := HO.out.up g5.below
    have kD := deepest_any _ [t] (fun c hc => by simp only [List.mem_singleton] at hc; subst hc; exact Nat.lt_succ_self _) _ _ (one_tr w5 t ok5 w5.heap.size rfl) (by rw [szL_one]; omega)
    rw [dpL_one, HE.out.1, HE.out.2] at kD
    have hdz := dp_le_sz t
    obtain ⟨P, hP⟩ : ∃ P, P = t.dp := ⟨_, rfl⟩
    rw [← hP] at kD
    have HP : Hid (P = t.dp) := hP
    have hP1 : P ≤ 200 := by omega
    have HG5 : Hid (Grows W (w5.alloc (.cells #[.int .i64 t.k, .int .i64 t.d, .slice at' nt ct, .int .i64 t.lo, .int .i64 t.hi, .slice ak nk ck] 29))) := g5.trans (Grows.alloc _ _)
    clear y ok5 hdz hP hsz kS g5
    go_wp2_with fail
    refine kD.mono ?_
    rintro e w6 ⟨rfl, g6⟩
    have g6' := HG5.out.trans g6
    clear kD x0 x1 y0 y1 y2 y3 y4 y5
    by_cases h3 : (20 : Int) < (P : Int)
    · have h3d : decide ((20 : Int) < (P : Int)) = true := decide_eq_true h3
      have HM : Hid (t.may D M = false) := by show _ = _; unfold Tr.may; rw [decide_eq_false (p := t.dp ≤ 20) (by have := HP.out; omega)]; simp
      go_wp2_with fail
      go_ret
      exact ⟨by rw [HM.out]; rfl, HG.out.trans g6'⟩
    · have h3d : decide ((20 : Int) < (P : Int)) = false := decide_eq_false h3
      obtain ⟨⟨x0, x1⟩, y⟩ := HBX.out w6 g6'.below
      have y0 := y 0 _ rfl
      have y1 := y 1 _ rfl
      have y2 := y 2 _ rfl
      have y3 := y 3 _ rfl
      have y4 := y 4 _ rfl
      have y5 := y 5 _ rfl
      rw [HE.out.1] at y2
      rw [HE.out.2] at y5
      have ok6 := HO.out.up g6'.below
      have kA := allfit_any D M _ [t] (fun c hc => by simp only [List.mem_singleton] at hc; subst hc; exact Nat.lt_succ_self _) _ _ (one_tr w6 t ok6 w6.heap.size rfl)
      rw [fitL_one, HE.out.1, HE.out.2] at kA
      have HM : Hid (t.may D M = t.fitA D M) := by
        show _ = _
        unfold Tr.may
        rw [decide_eq_true HZ.out, decide_eq_true (p := t.dp ≤ 20) (by have := HP.out; omega)]; simp
      have HG6 : Hid (Grows W (w6.alloc (.cells #[.int .i64 t.k, .int .i64 t.d, .slice at' nt ct, .int .i64 t.lo, .int .i64 t.hi, .slice ak nk ck] 29))) := g6'.trans (Grows.alloc _ _)
      generalize t.fitA D M = F at *
      clear y ok6 g6 g6' HG5
      cases F with
      | true =>
        go_wp2_with fail
        refine kA.mono ?_
        rintro e w7 ⟨rfl, g7⟩
        go_wp2_with fail
        go_ret
        exact ⟨by rw [HM.out]; rfl, HG.out.trans (HG6.out.trans g7)⟩
      | false =>
        go_wp2_with fail
        refine kA.mono ?_
        rintro e w7 ⟨rfl, g7⟩
        go_wp2_with fail
        go_ret
        exact ⟨by rw [HM.out]; rfl, HG.out.trans (HG6.out.trans g7)⟩

end Go.Proofs.YtiiihjihegilnaaGreatDoor.Fi
