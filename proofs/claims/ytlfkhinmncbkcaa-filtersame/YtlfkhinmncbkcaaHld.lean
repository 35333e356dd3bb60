/- What holds doesn't hang on a tree's values; what the trees of awake say. No walk stands here. -/
import Derived.Test.YtlfkhinmncbkcaaMadeZ
namespace Go.Proofs.Ytlfkhinmncbkcaa
open Go.RowKit Go.Sort

theorem er_txt (t : Tr) (s : Str) : t.er.txt s = t.txt s := by
  unfold Tr.txt
  rw [er_k, er_ts]
theorem er_hold (X : Fc) (t : Tr) : t.er.hold X = t.hold X := by
  refine er_ind (P := fun t u => u.hold X = t.hold X) (fun t h => ?_) t
  rw [t.er.hold_eq, t.hold_eq, er_kids]
  unfold holdE holdL
  rw [List.map_map, show t.kids.map (Tr.hold X ∘ Tr.er) = t.kids.map (Tr.hold X) from List.map_congr_left fun c hc => h c hc, er_k, er_d, er_lo, er_hi]
  simp only [er_txt]
theorem er_holdG (X : Fc) (t : Tr) : t.er.holdG X = t.holdG X := by
  unfold Tr.holdG
  rw [er_sz, er_hold]
/-- The trees of awake, by where their slices lie. -/
def aA : Tr := .mk 1 0 sn [] 0 0 sn []
def aI (B : Nat) : Tr := .mk 5 0 (.slice (some ⟨B, 0, none⟩) 1 1) [[97]] 0 0 sn []
def aN (B : Nat) : Tr := .mk 2 0 sn [] 0 0 (.slice (some ⟨B, 0, none⟩) 1 1) [aA]
def aF (B0 B3 B4 : Nat) : Tr := .mk 4 0 sn [] 0 0 (.slice (some ⟨B4, 0, none⟩) 2 2) [aI B0, aN B3]
def aG : Tr := .mk 3 0 sn [] 0 0 sn [.mk 2 0 sn [] 0 0 sn [.mk 5 0 sn [[97]] 0 0 sn []], aA]
theorem aA_kids : aA.kids = [] := rfl
theorem aI_kids (B : Nat) : (aI B).kids = [] := rfl
theorem aN_kids (B : Nat) : (aN B).kids = [aA] := rfl
theorem aF_kids (a b c : Nat) : (aF a b c).kids = [aI a, aN b] := rfl
theorem aF_sz (a b c : Nat) : (aF a b c).sz = 4 := by
  simp [Tr.sz_eq, szL, aF_kids, aN_kids, aI_kids, aA_kids]
theorem aF_dp (a b c : Nat) : (aF a b c).dp = 3 := by
  simp [Tr.dp_eq, dpL, aF_kids, aN_kids, aI_kids, aA_kids]
theorem aF_may (a b c : Nat) : (aF a b c).may 1 0 = true := by
  unfold Tr.may
  rw [aF_sz, aF_dp]
  simp [Tr.fitA_eq, fitL, aF_kids, aN_kids, aI_kids, aA_kids]
  simp [Tr.fit, aF, aN, aI, aA, Tr.k, Tr.d, Tr.ts, Tr.ks]
  rfl
theorem aF_not (a b c : Nat) : (aF a b c).may 0 0 = false := by
  unfold Tr.may
  rw [aF_sz, aF_dp]
  simp [Tr.fitA_eq, fitL, aF_kids, aN_kids, aI_kids, aA_kids]
  simp [Tr.fit, aF, aN, aI, aA, Tr.k, Tr.d, Tr.ts, Tr.ks]
theorem aI_turn (B : Nat) (b : Bool) : (aI B).turn b = if b then .mk 2 0 sn [] 0 0 sn [.mk 5 0 sn [[97]] 0 0 sn []] else .mk 5 0 sn [[97]] 0 0 sn [] := by
  have e : (aI B).own.er = .mk 5 0 sn [[97]] 0 0 sn [] := by rw [Tr.er_eq]; rfl
  rw [turn_leaf (t := aI B) (show (5 : Int) ≠ 3 by decide) (show (5 : Int) ≠ 4 by decide) (aI_kids B), e]
theorem aA_turn (b : Bool) : aA.turn b = if b then .mk 2 0 sn [] 0 0 sn [aA] else aA := by
  have e : aA.own.er = aA := by rw [Tr.er_eq]; rfl
  rw [turn_leaf (t := aA) (by decide) (by decide) aA_kids, e]
theorem aF_turn (a b c : Nat) : (aF a b c).turn true = aG := by
  rw [turn_and (.inr rfl)]
  show Tr.mk (7 - 4) 0 sn [] 0 0 sn [(aI a).turn true, (aN b).turn true] = aG
  rw [aI_turn, turn_not (t := aN b) rfl rfl, aA_turn]
  rfl
/-- awake's fact. -/
def aX (B : Nat) : Fc := ⟨0, .slice (some ⟨B, 0, none⟩) 1 1, sn, [[97]], []⟩
theorem aF_hold (a b c d : Nat) : (aF a b c).holdG (aX d) = true := by
  unfold Tr.holdG
  rw [aF_sz]
  simp [Tr.hold_eq, holdL, aF_kids, aN_kids, aI_kids, aA_kids]
  simp [holdE, aF, aN, aI, aA, aX, Tr.k, Tr.d, Tr.ts, Tr.txt, anyB, hasT]
theorem aG_hold (d : Nat) : aG.holdG (aX d) = false := by
  have k0 : aG.kids = [.mk 2 0 sn [] 0 0 sn [.mk 5 0 sn [[97]] 0 0 sn []], aA] := rfl
  have k1 : (Tr.mk 2 0 sn [] 0 0 sn [.mk 5 0 sn [[97]] 0 0 sn []]).kids = [.mk 5 0 sn [[97]] 0 0 sn []] := rfl
  have k2 : (Tr.mk 5 0 sn [[97]] 0 0 sn []).kids = [] := rfl
  unfold Tr.holdG
  simp [Tr.hold_eq, holdL, k0, k1, k2, aA_kids]
  simp [holdE, aG, aA, aX, Tr.k, Tr.d, Tr.ts, Tr.txt, anyB, hasT]
theorem aG_of {t : Tr} (h : t.er = aG) : t.k = 3 ∧ ∃ x y, t.ks = [x, y] ∧ y.k = 1 := by
  refine ⟨by rw [← er_k, h]; rfl, ?_⟩
  have hk := er_ks t
  rw [h] at hk
  match hks : t.ks with
  | [] => rw [hks] at hk; exact absurd (congrArg List.length hk) (by simp [aG, Tr.ks])
  | [x] => rw [hks] at hk; exact absurd (congrArg List.length hk) (by simp [aG, Tr.ks])
  | [x, y] =>
    rw [hks] at hk
    refine ⟨x, y, rfl, ?_⟩
    have : y.er = aA := by
      have h2 : [Tr.mk 2 0 sn [] 0 0 sn [.mk 5 0 sn [[97]] 0 0 sn []], aA] = [x.er, y.er] := hk
      simp only [List.cons.injEq, and_true] at h2
      exact h2.2.symm
    rw [← er_k, this]; rfl
  | x :: y :: z :: r => rw [hks] at hk; exact absurd (congrArg List.length hk) (by simp [aG, Tr.ks])
end Go.Proofs.Ytlfkhinmncbkcaa
