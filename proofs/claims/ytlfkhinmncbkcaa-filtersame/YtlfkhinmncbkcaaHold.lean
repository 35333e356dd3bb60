/- Contracts of one and holds, by induction over the trees. -/
import Derived.Test.YtlfkhinmncbkcaaHTxt
import Derived.Test.YtlfkhinmncbkcaaFcx
namespace Go.Proofs.Ytlfkhinmncbkcaa
open Go.RowKit Go.Sort

def anyB (a : Bool) (l : List Bool) : Bool := l.any (· == a)
/-- Does a part hold, by what its Kids do? -/
def holdE (X : Fc) (t : Tr) (bs : List Bool) : Bool :=
  if t.k = 1 ∨ t.k = 3 then !anyB false bs
  else if t.k = 2 then anyB false bs
  else if t.k = 4 then anyB true bs
  else if t.k = 8 then decide (0 ≤ t.d ∧ t.d < X.ms.length) && (decide (t.lo ≤ X.ms.getD t.d.toNat 0) && decide (X.ms.getD t.d.toNat 0 ≤ t.hi))
  else decide (0 ≤ t.d ∧ t.d < X.ds.length) && t.txt (X.ds.getD t.d.toNat [])
def Tr.hold (X : Fc) (t : Tr) : Bool := holdE X t (t.kids.attach.map fun c => c.1.hold X)
termination_by SizeOf.sizeOf t
decreasing_by exact kids_lt c.2
def holdL (X : Fc) (l : List Tr) : List Bool := l.map (Tr.hold X)
theorem Tr.hold_eq (X : Fc) (t : Tr) : t.hold X = holdE X t (holdL X t.kids) := by
  rw [Tr.hold]; unfold holdL
  rw [List.attach_map_val (f := Tr.hold X)]
theorem anyB_true {X : Fc} {a : Bool} {l : List Tr} {i : Nat} (h : i < l.length) (hf : l[i].hold X = a) : anyB a (holdL X l) = true := by
  unfold anyB holdL
  rw [List.any_eq_true]
  exact ⟨_, List.mem_map.2 ⟨l[i], List.getElem_mem h, rfl⟩, by simp [hf]⟩
theorem anyB_false {X : Fc} {a : Bool} {l : List Tr} (h : ∀ i (hi : i < l.length), l[i].hold X = !a) : anyB a (holdL X l) = false := by
  unfold anyB holdL
  rw [List.any_eq_false]
  intro x hx
  obtain ⟨t, ht, rfl⟩ := List.mem_map.1 hx
  obtain ⟨i, hi, rfl⟩ := List.mem_iff_getElem.1 ht
  rw [h i hi]; cases a <;> simp

set_option maxHeartbeats 4000000 in
theorem one_of (X : Fc) (N : Nat)
    (ih : ∀ t : Tr, SizeOf.sizeOf t < N → ∀ w, t.Ok w → X.Ok w → Calls Try.prog 28 #[.agg #[.int .i64 t.k, .int .i64 t.d, t.tv, .int .i64 t.lo, .int .i64 t.hi, t.kv], .agg #[.int .i64 X.t, X.dv, X.mv]] w fun e w' => e = .returned (.bool (t.hold X)) ∧ Grows w w')
    (a : Bool) (l : List Tr) (hl : ∀ t ∈ l, SizeOf.sizeOf t < N) (w : World) (v : Value) (h : RdsT w v l) (hX : X.Ok w) :
    Calls Try.prog 36 #[.bool a, .agg #[.int .i64 X.t, X.dv, X.mv], v] w fun e w' => e = .returned (.bool (anyB a (holdL X l))) ∧ Grows w w' := by
  obtain ⟨ao, n, cap, rfl⟩ := h.sl
  obtain ⟨hn, hc1, hc2⟩ := h.len
  unfold maxLen at hc2
  obtain ⟨ad, nd, cd, am, nm, cm, f1, f2, -⟩ := hX.lens
  obtain ⟨W, hW⟩ : ∃ W, W = w.alloc (.cells #[.int .i64 X.t, X.dv, X.mv] 35) := ⟨_, rfl⟩
  have gW : Grows w W := by rw [hW]; exact Grows.alloc _ _
  have hbox : ∀ w5, Below W.heap.size W w5 → w5.cell? ⟨w.heap.size, 0, none⟩ = some (.int .i64 X.t) ∧ w5.cell? ⟨w.heap.size, 1, none⟩ = some X.dv ∧ w5.cell? ⟨w.heap.size, 2, none⟩ = some X.mv := fun w5 h5 => by
    have hlt5 : w.heap.size < W.heap.size := by rw [hW]; simp
    refine ⟨?_, ?_, ?_⟩ <;> (rw [h5.cell (by exact hlt5), hW]; simp)
  have HBX : Aside _ := hbox
  have HN : Hid (n = l.length) := hn
  have HH : Hid (RdsT W (.slice ao n cap) l) := h.below gW.below
  have HI : Aside _ := ih
  have HL : Aside _ := hl
  have HGW : Hid (Grows w W) := gW
  have HXo : Hid (X.Ok W) := hX.up gW.below
  have HE : Hid (X.dv = .slice ad nd cd ∧ X.mv = .slice am nm cm) := ⟨f1, f2⟩
  have HW : Hid _ := hW
  rw [f1, f2] at HW ⊢
  clear h hn ih hl gW hW hbox hX f1 f2
  go_enter Try.func36, Try.ntmps36
  go_wp2_with fail
  rw [← HW.out]
  go_loopg [11] n (fun kx v11 wr => ∃ i : Nat, v11 = .int .i64 i ∧ i ≤ n ∧ n - i ≤ kx ∧ Hid (∀ j (hj : j < l.length), j < i → l[j].hold X = !a) ∧ Hid (Grows W wr))
  case atStart => exact ⟨0, rfl, by omega, Nat.le_refl _, fun j _ hj => by omega, Grows.refl _⟩
  case round =>
    obtain ⟨i, rfl, hi, hkx, HJ, HG⟩ := hrel
    by_cases hlt : i < n
    · have hltz : (i : Int) < (n : Int) := by omega
      have hil : i < l.length := by have := HN.out; omega
      have hr := RdsT.below HH.out HG.out.below
      obtain ⟨b, off, rfl, hcell⟩ := hr.at (by omega)
      obtain ⟨q0, q1, q2, q3, q4, q5⟩ := hcell i hil
      have ok := hr.ok l[i] (List.getElem_mem hil)
      have hsz := HL.out l[i] (List.getElem_mem hil)
      obtain ⟨x, hx⟩ : ∃ x, x = l[i] := ⟨_, rfl⟩
      rw [← hx] at q0 q1 q2 q3 q4 q5 ok hsz
      have HX : Hid (x = l[i]) := hx
      clear hx
      obtain ⟨at', nt, ct, ak, nk, ck, e1, e2, -, -, -, -⟩ := ok.lens
      obtain ⟨V, hV⟩ : ∃ V, V = wr.alloc (.cells #[.int .i64 x.k, .int .i64 x.d, x.tv, .int .i64 x.lo, .int .i64 x.hi, x.kv] 27) := ⟨_, rfl⟩
      have gV : Grows wr V := by rw [hV]; exact Grows.alloc _ _
      have gV' : Grows W V := HG.out.trans gV
      have kH := HI.out x hsz V (ok.up gV.below) (HXo.out.up gV'.below)
      obtain ⟨z0, z1, z2⟩ := HBX.out V gV'.below
      rw [HE.out.1] at z1 kH
      rw [HE.out.2] at z2 kH
      rw [e1] at q2 hV kH
      rw [e2] at q5 hV kH
      rw [hV] at kH z0 z1 z2
      obtain ⟨B, hB⟩ : ∃ B, B = x.hold X := ⟨_, rfl⟩
      rw [← hB] at kH
      have HB : Hid (B = x.hold X) := hB
      have HV : Hid _ := hV
      have HGV : Hid (Grows W V) := gV'
      generalize x.k = xk at *
      generalize x.d = xd at *
      generalize x.lo = xl at *
      generalize x.hi = xh at *
      clear ok hsz hcell hr e1 e2 hV gV gV' hB
      go_wp2_with fail
      refine kH.mono ?_
      rintro e w6 ⟨rfl, g6⟩
      rw [← HV.out] at g6
      have HG6 : Hid (Grows W w6) := HGV.out.trans g6
      clear kH g6 z0 z1 z2 q0 q1 q2 q3 q4 q5
      by_cases hba : B = a
      · subst hba
        have HT : Hid (anyB B (holdL X l) = true) := anyB_true hil (by rw [← HX.out, ← HB.out])
        cases B <;>
          (go_wp2_with fail
           go_ret
           exact ⟨by rw [HT.out]; rfl, HGW.out.trans HG6.out⟩)
      · have hba' : B = !a := by cases a <;> cases B <;> simp_all
        subst hba'
        have HJ' : Hid (∀ j (hj : j < l.length), j < i + 1 → l[j].hold X = !a) := fun j hj hji => by
          by_cases h : j = i
          · subst h; rw [← HX.out, ← HB.out]
          · exact HJ.out j hj (by omega)
        clear hba
        cases a <;>
          (go_wp2_with fail
           go_roundg (n - (i + 1))
           case measure => omega
           case rel => exact ⟨i + 1, by go_num, by omega, Nat.le_refl _, HJ', HG6⟩)
    · have hltz : ¬ (i : Int) < (n : Int) := by omega
      have HT : Hid (anyB a (holdL X l) = false) := anyB_false fun j hj => HJ.out j hj (by have := HN.out; omega)
      go_wp2_with fail
      go_ret
      exact ⟨by rw [HT.out]; rfl, HGW.out.trans HG.out⟩
end Go.Proofs.Ytlfkhinmncbkcaa
