/- Contracts of allFit and Check. -/
import Derived.Test.YtlfkhinmncbkcaaFits2
import Derived.BigQuiet
import Derived.Shelf.SlSortCmp.QuietGrown
namespace Go.Proofs.Ytlfkhinmncbkcaa
open Go.RowKit Go.Sort

theorem cell_gr {w : World} {a : Addr} {v : Value} (h : w.cell? a = some v) (n : Nat) (os : Array Obj) : (grow (w.drewN n) os).cell? a = some v := cell_grown (World.block_lt_of_cell? _ _ h) h n os
/-- May a filter be, but for depth and size? -/
def Tr.fitA (D M : Int) (t : Tr) : Bool := t.fit D M && (t.kids.attach.map fun c => c.1.fitA D M).all id
termination_by SizeOf.sizeOf t
decreasing_by exact kids_lt c.2
def fitL (D M : Int) (l : List Tr) : Bool := (l.map (Tr.fitA D M)).all id
theorem Tr.fitA_eq (D M : Int) (t : Tr) : t.fitA D M = (t.fit D M && fitL D M t.kids) := by
  rw [Tr.fitA]; unfold fitL
  rw [List.attach_map_val (f := Tr.fitA D M)]
theorem fitL_false {D M : Int} {l : List Tr} {i : Nat} (h : i < l.length) (hf : l[i].fitA D M = false) : fitL D M l = false := by
  unfold fitL
  rw [List.all_eq_false]
  exact ⟨_, List.mem_map.2 ⟨l[i], List.getElem_mem h, rfl⟩, by simp [hf]⟩
theorem fitL_true {D M : Int} {l : List Tr} (h : ∀ i (hi : i < l.length), l[i].fitA D M = true) : fitL D M l = true := by
  unfold fitL
  rw [List.all_eq_true]
  intro x hx
  obtain ⟨t, ht, rfl⟩ := List.mem_map.1 hx
  obtain ⟨i, hi, rfl⟩ := List.mem_iff_getElem.1 ht
  exact h i hi

set_option maxHeartbeats 8000000 in
theorem allfit_any (D M : Int) : ∀ (N : Nat) (l : List Tr), (∀ t ∈ l, SizeOf.sizeOf t < N) → ∀ (w : World) (v : Value), RdsT w v l →
    Calls Try.prog 24 #[.agg #[.int .i64 D, .int .i64 M], v] w fun e w' => e = .returned (.bool (fitL D M l)) ∧ Grows w w' := by
  intro N
  induction N with
  | zero =>
    intro l hl w v h
    have : l = [] := by
      cases l with
      | nil => rfl
      | cons t l => have := hl t (by simp); omega
    subst this
    obtain ⟨ao, n, cap, rfl⟩ := h.sl
    obtain ⟨hn, -, -⟩ := h.len
    simp only [List.length_nil] at hn
    subst hn
    have HG0 : Hid (Grows w (w.alloc (.cells #[.int .i64 D, .int .i64 M] 23))) := Grows.alloc _ _
    go_enter Try.func24, Try.ntmps24
    go_wp2_with fail
    go_loopg [9] 0 (fun kx v10 wr => v10 = .int .i64 0 ∧ Hid (Grows w wr))
    case atStart => exact ⟨rfl, HG0⟩
    case round =>
      obtain ⟨rfl, HG⟩ := hrel
      go_wp2_with fail
      go_ret
      exact ⟨rfl, HG.out⟩
  | succ N ih =>
    intro l hl w v h
    obtain ⟨ao, n, cap, rfl⟩ := h.sl
    obtain ⟨hn, hc1, hc2⟩ := h.len
    unfold maxLen at hc2
    obtain ⟨W, hW⟩ : ∃ W, W = w.alloc (.cells #[.int .i64 D, .int .i64 M] 23) := ⟨_, rfl⟩
    have gW : Grows w W := by rw [hW]; exact Grows.alloc _ _
    have hbox : ∀ w5, Below W.heap.size W w5 → w5.cell? ⟨w.heap.size, 0, none⟩ = some (.int .i64 D) ∧ w5.cell? ⟨w.heap.size, 1, none⟩ = some (.int .i64 M) := fun w5 h5 => by
      have hlt5 : w.heap.size < W.heap.size := by rw [hW]; simp
      refine ⟨?_, ?_⟩ <;> (rw [h5.cell (by exact hlt5), hW]; simp)
    have HBX : Aside _ := hbox
    have HN : Hid (n = l.length) := hn
    have HH : Hid (RdsT W (.slice ao n cap) l) := h.below gW.below
    have HI : Aside _ := ih
    have HL : Aside (∀ t ∈ l, SizeOf.sizeOf t < N + 1) := hl
    have HGW : Hid (Grows w W) := gW
    have HW : Hid _ := hW
    have mixed : Try.prog.follows .mixedOrders = true := by kernel_rfl
    clear h hn ih hl gW hW hbox
    go_enter Try.func24, Try.ntmps24
    go_wp2_with fail
    rw [← HW.out]
    go_loopg [9] n (fun kx v9 wr => ∃ i : Nat, v9 = .int .i64 i ∧ i ≤ n ∧ n - i ≤ kx ∧ Hid (∀ j (hj : j < l.length), j < i → l[j].fitA D M = true) ∧ Hid (Grows W wr))
    case atStart => exact ⟨0, rfl, by omega, Nat.le_refl _, fun j _ hj => by omega, Grows.refl _⟩
    case round =>
      obtain ⟨i, rfl, hi, hkx, HJ, HG⟩ := hrel
      by_cases hlt : i < n
      · have hltz : (i : Int) < (n : Int) := by omega
        have hil : i < l.length := by have := HN.out; omega
        have hr := RdsT.below HH.out HG.out.below
        obtain ⟨b, off, rfl, hcell⟩ := hr.at (by omega)
        obtain ⟨q0, q1, q2, q3, q4, q5⟩ := hcell i hil
        have ok := hr.ok l[i] (List.getElem_mem hil)
        have hsz := HL.out l[i] (List.getElem_mem hil)
        obtain ⟨x, hx⟩ : ∃ x, x = l[i] := ⟨_, rfl⟩
        rw [← hx] at q0 q1 q2 q3 q4 q5 ok hsz
        have HX : Hid (x = l[i]) := hx
        clear hx
        obtain ⟨at', nt, ct, ak, nk, ck, e1, e2, -, -, -, -⟩ := ok.lens
        obtain ⟨V, hV⟩ : ∃ V, V = wr.alloc (.cells #[.int .i64 x.k, .int .i64 x.d, x.tv, .int .i64 x.lo, .int .i64 x.hi, x.kv] 27) := ⟨_, rfl⟩
        have gV : Grows wr V := by rw [hV]; exact Grows.alloc _ _
        have okV : ∀ nq os, x.Ok (grow (V.drewN nq) os) := fun nq os => (ok.up gV.below).up (below_grown_sl _ V nq os (Nat.le_refl _))
        have kF : ∀ nq os, Calls Try.prog 34 #[.agg #[.int .i64 D, .int .i64 M], .agg #[.int .i64 x.k, .int .i64 x.d, x.tv, .int .i64 x.lo, .int .i64 x.hi, x.kv]] (grow (V.drewN nq) os) fun e w' => e = .returned (.bool (x.fit D M)) ∧ ∃ q os', w' = grow ((grow (V.drewN nq) os).drewN q) os' := fun nq os => fits_any _ D M x (okV nq os)
        have kK : ∀ nq os, Calls Try.prog 33 #[.agg #[.int .i64 x.k, .int .i64 x.d, x.tv, .int .i64 x.lo, .int .i64 x.hi, x.kv]] (grow (V.drewN nq) os) fun e w' => e = .returned x.kidv ∧ ∃ q os', w' = grow ((grow (V.drewN nq) os).drewN q) os' := fun nq os => kids_any _ x (okV nq os)
        have kA : ∀ nq os, Calls Try.prog 24 #[.agg #[.int .i64 D, .int .i64 M], x.kidv] (grow (V.drewN nq) os) fun e w' => e = .returned (.bool (fitL D M x.kids)) ∧ ∃ q os', w' = grow ((grow (V.drewN nq) os).drewN q) os' := fun nq os => HI.out x.kids (fun t ht => by have := kids_lt ht; omega) _ _ (okV nq os).kids
        obtain ⟨a5, n5, c5, e5⟩ := ok.kids.sl
        obtain ⟨z0, z1⟩ := HBX.out V (HG.out.trans gV).below
        have z0' := fun nq os => cell_gr z0 nq os
        have z1' := fun nq os => cell_gr z1 nq os
        have y : ∀ c u, (#[Value.int .i64 x.k, .int .i64 x.d, x.tv, .int .i64 x.lo, .int .i64 x.hi, x.kv])[c]? = some u → V.cell? ⟨wr.heap.size, c, none⟩ = some u := fun c u hc => by rw [hV]; simpa using hc
        have y0' := fun nq os => cell_gr (y 0 _ rfl) nq os
        have y1' := fun nq os => cell_gr (y 1 _ rfl) nq os
        have y2' := fun nq os => cell_gr (y 2 _ rfl) nq os
        have y3' := fun nq os => cell_gr (y 3 _ rfl) nq os
        have y4' := fun nq os => cell_gr (y 4 _ rfl) nq os
        have y5' := fun nq os => cell_gr (y 5 _ rfl) nq os
        have HA : Hid (x.fitA D M = (x.fit D M && fitL D M x.kids)) := x.fitA_eq D M
        have HGV : Hid (Grows W V) := HG.out.trans gV
        have HV : Hid _ := hV
        rw [e5] at kK kA
        rw [e1, e2] at HV kF kK
        rw [e1] at q2 y2'
        rw [e2] at q5 y5'
        generalize x.fit D M = f1 at *
        generalize fitL D M x.kids = f2 at *
        generalize x.k = xk at *
        generalize x.d = xd at *
        generalize x.lo = xl at *
        generalize x.hi = xh at *
        clear ok hsz hcell hr hV gV okV y z0 z1 e1 e2 e5
        cases f1 with
        | false =>
          go_wp2_with fail
          rw [← HV.out]
          refine wp_region_quiet_grown (by assumption) (by kernel_rfl) ?_
          repeat (go_big_quiet_step (first | (go_at_call 34; refine Calls.grown_of (kF _ _))))
          refine wpQuiet_nil ?_
          intro _ hw'
          obtain ⟨⟨nq, osq⟩, hw''⟩ := hw'
          subst hw''
          go_wp2_with fail
          go_ret
          refine ⟨?_, (HGW.out.trans HGV.out).trans ⟨nq, osq, rfl⟩⟩
          rw [fitL_false hil (by rw [← HX.out, HA.out]; rfl)]
          rfl
        | true =>
          cases f2 with
          | false =>
            go_wp2_with fail
            rw [← HV.out]
            refine wp_region_quiet_grown (by assumption) (by kernel_rfl) ?_
            repeat (go_big_quiet_step (first | (go_at_call 34; refine Calls.grown_of (kF _ _)) | (go_at_call 33; refine Calls.grown_of (kK _ _)) | (go_at_call 24; refine Calls.grown_of (kA _ _))))
            refine wpQuiet_nil ?_
            intro _ hw'
            obtain ⟨⟨nq, osq⟩, hw''⟩ := hw'
            subst hw''
            go_wp2_with fail
            go_ret
            refine ⟨?_, (HGW.out.trans HGV.out).trans ⟨nq, osq, rfl⟩⟩
            rw [fitL_false hil (by rw [← HX.out, HA.out]; rfl)]
            rfl
          | true =>
            go_wp2_with fail
            rw [← HV.out]
            refine wp_region_quiet_grown (by assumption) (by kernel_rfl) ?_
            repeat (go_big_quiet_step (first | (go_at_call 34; refine Calls.grown_of (kF _ _)) | (go_at_call 33; refine Calls.grown_of (kK _ _)) | (go_at_call 24; refine Calls.grown_of (kA _ _))))
            refine wpQuiet_nil ?_
            intro _ hw'
            obtain ⟨⟨nq, osq⟩, hw''⟩ := hw'
            subst hw''
            go_wp2_with fail
            go_roundg (n - (i + 1))
            case measure => omega
            case rel =>
              refine ⟨i + 1, by go_num, by omega, Nat.le_refl _, fun j hj h => ?_, HGV.out.trans ⟨nq, osq, rfl⟩⟩
              by_cases hji : j = i
              · subst hji
                rw [← HX.out, HA.out]; rfl
              · exact HJ.out j hj (by omega)
      · have hltz : ¬ (i : Int) < (n : Int) := by omega
        go_wp2_with fail
        go_ret
        refine ⟨?_, HGW.out.trans HG.out⟩
        rw [fitL_true fun j hj => HJ.out j hj (by have := HN.out; omega)]
        rfl
end Go.Proofs.Ytlfkhinmncbkcaa
