/- PURE: two intakes that go on alike. -/
import Derived.Test.YtmnlkmgpikilbaaGnP
namespace Go.Proofs.Ytmnlkmgpikilbaa
set_option linter.unusedVariables false

structure Al (first : Int) (f : Nat) (Zx Zy : List Kp) (ox oy : Kp) (tk : List Int) : Prop where
  cx : kch f Zx ox.fr
  cy : kch f Zy oy.fr
  fr : ox.fr = oy.fr
  ts : ox.ts = oy.ts
  rx : ox.up = ox.fr + ox.ts.length
  ry : oy.up = oy.fr + oy.ts.length
  num : ox.num = oy.num + first
  ny : oy.num = (Zy.length : Int) + 1
  ln : Zx.length = Zy.length
  ax : Zx.flatMap Kp.ts ++ ox.ts = tk
  ay : Zy.flatMap Kp.ts ++ oy.ts = tk
theorem Al.start (first : Int) (f : Nat) (ox oy : Kp) (h1 : ox.fr = f) (h2 : oy.fr = f) (h3 : ox.ts = []) (h4 : oy.ts = []) (h5 : ox.up = f) (h6 : oy.up = f) (h7 : ox.num = 1 + first) (h8 : oy.num = 1) : Al first f [] [] ox oy [] :=
  ⟨h1.symm, h2.symm, h1.trans h2.symm, h3.trans h4.symm, by rw [h3]; simp; omega, by rw [h4]; simp; omega, by rw [h7, h8], by rw [h8]; rfl, rfl, by rw [h3]; rfl, by rw [h4]; rfl⟩
theorem Al.upx {first : Int} {f : Nat} {Zx Zy : List Kp} {ox oy : Kp} {tk : List Int} (h : Al first f Zx Zy ox oy tk) : ox.up = f + tk.length ∧ oy.up = f + tk.length := by
  have h1 := (kch_len Zx f ox.fr h.cx).2.1
  have h2 := (kch_len Zy f oy.fr h.cy).2.1
  have h3 := congrArg List.length h.ax
  have h4 := congrArg List.length h.ay
  rw [List.length_append] at h3 h4
  have := h.rx
  have := h.ry
  omega
theorem Al.take {first : Int} {f : Nat} {Zx Zy : List Kp} {ox oy : Kp} {tk : List Int} (h : Al first f Zx Zy ox oy tk) (vx vy : Value) (t : Int) :
    Al first f Zx Zy { num := ox.num, fr := ox.fr, up := ox.up + 1, v := vx, ts := ox.ts ++ [t] } { num := oy.num, fr := oy.fr, up := oy.up + 1, v := vy, ts := oy.ts ++ [t] } (tk ++ [t]) :=
  ⟨h.cx, h.cy, h.fr, by simp only; rw [h.ts], by have := h.rx; simp; omega, by have := h.ry; simp; omega, h.num, h.ny, h.ln, by simp only; rw [← List.append_assoc, h.ax], by simp only; rw [← List.append_assoc, h.ay]⟩
theorem Al.seal {first : Int} {f : Nat} {Zx Zy : List Kp} {ox oy : Kp} {tk : List Int} (h : Al first f Zx Zy ox oy tk) (hx : ox.fr < ox.up) :
    Al first f (Zx ++ [ox]) (Zy ++ [oy]) { num := ox.num + 1, fr := ox.up, up := ox.up, v := nl, ts := [] } { num := oy.num + 1, fr := oy.up, up := oy.up, v := nl, ts := [] } tk := by
  have e : ox.up = oy.up := by have := h.rx; have := h.ry; have := h.fr; have := congrArg List.length h.ts; omega
  refine ⟨kch_snoc Zx f ox.fr ox h.cx rfl h.rx hx, kch_snoc Zy f oy.fr oy h.cy rfl h.ry (by have := h.fr; omega), e, rfl, rfl, rfl, ?_, ?_, ?_, ?_, ?_⟩
  · have := h.num; simp only; omega
  · have := h.ny; simp only [List.length_append, List.length_singleton]; omega
  · have := h.ln; simp only [List.length_append, List.length_singleton]; omega
  · rw [List.flatMap_append, List.append_nil]; simpa using h.ax
  · rw [List.flatMap_append, List.append_nil]; simpa using h.ay
theorem bh_all {f : Nat} {Z : List Kp} {o : Kp} {tk : List Int} (hc : kch f Z o.fr) (hr : o.up = o.fr + o.ts.length) (ha : Z.flatMap Kp.ts ++ o.ts = tk) : bh Z f ++ o.ts.drop (ahd o f) = tk ∧ rls Z o = f ∧ f ≤ o.up ∧ o.up = f + tk.length ∧ Z.length ≤ tk.length ∧ (∀ p ∈ Z, p.up ≤ f + tk.length) ∧ ∀ i, (bh (Z.take i) f).length ≤ tk.length := by
  have h1 := kch_len Z f o.fr hc
  have h3 := congrArg List.length ha
  rw [List.length_append] at h3
  refine ⟨?_, rls_eq hc, by omega, by omega, by omega, fun p hp => by have := h1.2.2 p hp; omega, fun i => ?_⟩
  · rw [kch_bhL _ _ _ _ (Nat.le_refl _) hc, ahd_low o f (by omega) (by omega), List.drop_zero]
    exact ha
  · obtain ⟨e', k3, k4⟩ := kch_take i _ _ _ hc
    have h4 := bh_le (Z.take i) f
    have h5 := (kch_len _ _ _ k3).2.1
    omega
theorem take_drop_snoc (l : List Int) (f i : Nat) (hf : f ≤ i) (hi : i < l.length) : (l.take (i + 1)).drop f = (l.take i).drop f ++ [l[i]] := by
  rw [List.take_succ_eq_append_getElem hi, List.drop_append_of_le_length (by rw [List.length_take]; omega)]
end Go.Proofs.Ytmnlkmgpikilbaa
