/- The reference's reader of a byte that says true or false. -/
import Derived.Test.YtpdlioidiobbbaaRk2
namespace Go.Proofs.Ytpdlioidiobbbaa
open Go.RowKit

/-- What it got. -/
inductive GKB (B K : Nat) (v : Value) (l : Bs) (w : World) (p e : Nat) (er : Ending) (w' : World) : Prop
  | mk (b : Bool) (h : er = .returned (.bool b)) (g : GK B K v l w w' (p, e) (skB l) (eb b)) : GKB B K v l w p e er w'
set_option maxRecDepth 100000 in
set_option maxHeartbeats 3200000 in
theorem kbool (B K : Nat) (v : Value) (l : Bs) (w : World) (p e : Nat) (h : RP B K v l w p e) :
    Calls Try.prog 66 #[.pointer (some ⟨K, 0, none⟩)] w (GKB B K v l w p e) := by
  by_cases he : e = 0
  · subst he
    obtain ⟨c0, c1, c2, f⟩ := h.ks.cells
    obtain ⟨ao, cap, rfl, h1, h2, h3, h4⟩ := id h.rd.1
    unfold maxLen at h2
    have f1 := f 1
    have f2 := f 2
    have hcl := h.rd.1.cells.2.2.2
    have hple := h.le
    have HC : Aside _ := hcl
    have HH : Hid _ := h
    clear hcl h3 h4 f h
    by_cases hlt : p < l.length
    · obtain ⟨b, off, rfl, hcell⟩ := HC.out (by omega)
      have hck := hcell p hlt
      have hcb := (l.getD p 0).toNat_lt
      have hx' : (l.getD p 0).toNat = l[p].toNat := by simp [hlt]
      have hd : l.drop p = l[p] :: l.drop (p + 1) := drop_cons l p hlt
      clear hcell HC
      obtain ⟨x, hx⟩ : ∃ x, x = (l.getD p 0).toNat := ⟨_, rfl⟩
      rw [← hx] at hck hcb
      have HX : Hid (x = l[p].toNat ∧ l.drop p = l[p] :: l.drop (p + 1)) := ⟨hx.trans hx', hd⟩
      have hq : (p : Int) < (l.length : Int) := by omega
      clear hx hx' hd
      by_cases hx1 : 1 < x
      · have hx1' : (1 : Int) < (x : Int) := by omega
        go_enter Try.func66, Try.ntmps66
        go_wp2_with fail
        go_quiet (fail)
        go_wp2_with fail
        go_quiet (fail)
        go_wp2_with fail
        go_ret
        have e : skB l (p, 0) = (p, 12) := by
          unfold skB
          simp only [ne_eq, not_true_eq_false, if_false]
          rw [HX.out.2]
          simp only
          rw [if_pos (by rw [← HX.out.1]; exact hx1)]
        exact .mk false rfl ⟨by rw [e]; exact HH.out.go (heap_setCell_same _ K 2 _ 104 (.int .i64 12) HH.out.ks) (grown_trans' (grown_drewN w _ _) grown_setCell) hple, grown_trans' (grown_drewN w _ _) grown_setCell, fun _ h2 => by rw [e] at h2; cases h2⟩
      · have hx1' : ¬ (1 : Int) < (x : Int) := by omega
        have e : skB l (p, 0) = (p + 1, 0) := by
          unfold skB
          simp only [ne_eq, not_true_eq_false, if_false]
          rw [HX.out.2]
          simp only
          rw [if_neg (by rw [← HX.out.1]; exact hx1)]
        have hby : ∀ q : Bool, (q = true ↔ x = 1) → eb q = rd l p (p + 1) := fun q hq2 => by
          have e2 := HX.out.1
          unfold rd
          rw [HX.out.2, Nat.add_sub_cancel_left]
          show eb q = [l[p]]
          have hX01 : x = 0 ∨ x = 1 := by omega
          rcases hX01 with h0 | h0
          · have hqf : q = false := by cases q with | false => rfl | true => exact absurd (hq2.1 rfl) (by omega)
            rw [hqf]
            show [0] = [l[p]]
            rw [show l[p] = 0 from UInt8.toNat_inj.1 (by rw [← e2, h0]; rfl)]
          · rw [hq2.2 h0]
            show [1] = [l[p]]
            rw [show l[p] = 1 from UInt8.toNat_inj.1 (by rw [← e2, h0]; rfl)]
        have HE : Hid _ := And.intro e hby
        clear e hby
        go_enter Try.func66, Try.ntmps66
        go_wp2_with fail
        go_quiet (fail)
        go_wp2_with fail
        go_quiet (fail)
        go_wp2_with fail
        go_ret
        obtain ⟨e, hby⟩ := HE.out
        refine .mk _ rfl ⟨?_, grown_trans' (grown_drewN w _ _) grown_setCell, fun _ _ => ?_⟩
        · rw [e]
          exact HH.out.go (heap_setCell_same _ K 1 _ 104 _ HH.out.ks) (grown_trans' (grown_drewN w _ _) grown_setCell) (by omega)
        · rw [e]
          exact hby _ (by simp; try omega)
    · have hq : ¬ (p : Int) < (l.length : Int) := by omega
      have hq2 : (l.length : Int) ≤ (p : Int) := by omega
      clear HC
      have e : skB l (p, 0) = (p, 10) := by
        unfold skB
        simp only [ne_eq, not_true_eq_false, if_false]
        rw [List.drop_eq_nil_of_le (by omega)]
      have HE : Hid _ := e
      clear e
      go_enter Try.func66, Try.ntmps66
      go_wp2_with fail
      go_quiet (fail)
      go_wp2_with fail
      go_ret
      exact .mk false rfl ⟨by rw [HE.out]; exact HH.out.go (heap_setCell_same _ K 2 _ 104 (.int .i64 10) HH.out.ks) (grown_trans' (grown_drewN w _ _) grown_setCell) hple, grown_trans' (grown_drewN w _ _) grown_setCell, fun _ h2 => by rw [HE.out] at h2; cases h2⟩
  · obtain ⟨c0, c1, c2, f⟩ := h.ks.cells
    have HH : Hid _ := h
    have he2 : ((e : Int) == 0) = false := by simpa using he
    have he3 : ((e : Int) != 0) = true := by simp [bne, he2]
    clear h f c0 c1
    go_enter Try.func66, Try.ntmps66
    go_wp2_with fail
    go_ret
    have es : skB l (p, e) = (p, e) := by unfold skB; rw [if_pos he]
    exact .mk false rfl ⟨by rw [es]; exact HH.out, ⟨rfl, rfl, rfl, Nat.le_refl _, fun _ _ _ => rfl⟩, fun h0 _ => absurd h0 he⟩
end Go.Proofs.Ytpdlioidiobbbaa
