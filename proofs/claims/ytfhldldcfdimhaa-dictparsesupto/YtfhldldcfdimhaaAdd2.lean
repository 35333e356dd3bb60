/- The contract of dict.add, where the text may not stand there. -/
import Derived.Test.YtfhldldcfdimhaaAdd
namespace Go.Proofs.Ytfhldldcfdimhaa
open Go.RowKit Go.Shelf Go.Sort


theorem str_cat (a rest : Str) (k : Nat) : (⟨a.toArray⟩ : ByteArray).extract 0 k ++ ⟨rest.toArray⟩ = ⟨(a.take k ++ rest).toArray⟩ := by
  rw [str_take, ByteArray.mk_append_mk]
set_option maxHeartbeats 1600000 in
/-- Behind a text: what may not stand there. -/
theorem add_bad (w : World) (base B : Nat) (v : Value) (ts : List Str) (same : Nat) (rest : Str) (h : DD w base B v ts) (hl : ts.length ≤ 8796093022207) (h0 : 0 < ts.length) (hs : same ≤ (prv ts ts.length).length) (hr : rest.length ≤ 140737488355328)
    (hb : ¬ (prv ts ts.length < (prv ts ts.length).take same ++ rest ∧ ((prv ts ts.length).take same ++ rest).length ≤ 64 ∧ cpl (prv ts ts.length) ((prv ts ts.length).take same ++ rest) = same)) :
    Calls Try.prog 35 #[.pointer (some ⟨B, 0, none⟩), .int .u64 same, .string ⟨rest.toArray⟩] w fun e w' => e = .returned (.bool false) ∧ ∃ q, w' = w.drewN q := by
  have hf := prv_few h.few ts.length
  have hcB : w.cell? ⟨B, 0, none⟩ = some v := by rw [cell_of_row w B 0 _ 57 (0, 0) h.cell]; rfl
  obtain ⟨ao, n, cap, rfl⟩ : ∃ ao n cap, v = .slice ao n cap := by obtain ⟨ao, cap, hv, _⟩ := h.own.rds; exact ⟨_, _, _, hv⟩
  obtain ⟨hn, _, _, h3⟩ := h.own.rds.cells
  rw [sv_length] at hn h3
  subst hn
  obtain ⟨b, off, rfl, hc⟩ := h3 h0
  have hck := hc (ts.length - 1) _ (sv_get ts (ts.length - 1) (by omega))
  have e : ts.getD (ts.length - 1) [] = prv ts ts.length := by
    obtain ⟨j, hj⟩ : ∃ j, ts.length = j + 1 := ⟨ts.length - 1, by omega⟩
    rw [hj]; rfl
  rw [e] at hck
  generalize prv ts ts.length = a at *
  have hsa := str_size a
  have hsr := str_size rest
  have hcat := str_cat a rest same
  have htl : (a.take same ++ rest).length = same + rest.length := by simp; omega
  generalize a.take same ++ rest = t at *
  have hst := str_size t
  obtain ⟨m, hm⟩ : ∃ m, ts.length - 1 = m := ⟨_, rfl⟩
  have hm1 : ((ts.length : Nat) : Int) - 1 = (m : Int) := by omega
  have hm2 : (m : Int) < (ts.length : Int) := by omega
  have hm3 : (0 : Int) ≤ (m : Int) := by omega
  have hsi : ¬ (a.length : Int) < (same : Int) := by omega
  have hsi' : (same : Int) ≤ (a.length : Int) := by omega
  have hne : ¬ (ts.length : Int) = 0 := by omega
  have hneb : ((ts.length : Int) == 0) = false := by rw [beq_eq_false_iff_ne]; exact hne
  rw [hm] at hck
  clear hm h h3 hc e h0
  generalize ts.length = n at *
  have hni : ¬ n = 0 := by omega
  by_cases hgt : a < t
  · have hx : Op.bytesLess t a = false := by rw [bytesLess_eq]; exact decide_eq_false (fun y => lt_irr _ (lt_tr hgt y))
    have hy : (t == a) = false := beq_eq_false_iff_ne.2 (fun y => by rw [y] at hgt; exact lt_irr _ hgt)
    have hy' : ¬ t = a := fun y => by rw [y] at hgt; exact lt_irr _ hgt
    have kL := tooLong_any w t
    by_cases hlong : 64 < t.length
    · rw [decide_eq_true hlong] at kL
      clear hb hgt
      go_enter Try.func35, Try.ntmps35
      go_wp2_with fail
      refine kL.mono ?_
      rintro e w1 ⟨rfl, rfl⟩
      go_wp2_with fail
      go_ret
      exact ⟨rfl, 0, rfl⟩
    · rw [decide_eq_false hlong] at kL
      have hc : cpl a t ≠ same := fun y => hb ⟨hgt, by omega, y⟩
      have kS := same_any w a t (by omega) (by omega)
      generalize cpl a t = c at *
      have hci : ((c : Int) == (same : Int)) = false := by rw [beq_eq_false_iff_ne]; omega
      have hci' : ¬ (c : Int) = (same : Int) := by omega
      clear hb hgt
      go_enter Try.func35, Try.ntmps35
      go_wp2_with fail
      refine kL.mono ?_
      rintro e w1 ⟨rfl, rfl⟩
      go_wp2_with fail
      refine kS.mono ?_
      rintro e w2 ⟨rfl, q, rfl⟩
      go_wp2_with fail
      go_ret
      exact ⟨rfl, q, rfl⟩
  · by_cases he : t = a
    · have hy : (t == a) = true := beq_iff_eq.2 he
      have hx : Op.bytesLess t a = false := by rw [bytesLess_eq, he]; exact decide_eq_false (lt_irr _)
      have HE := hide he
      clear hb hgt
      subst he
      go_enter Try.func35, Try.ntmps35
      go_wp2_with fail
      go_ret
      exact ⟨rfl, 0, rfl⟩
    · have hx : Op.bytesLess t a = true := by rw [bytesLess_eq]; exact decide_eq_true (lt_of_le_ne hgt he)
      clear hb hgt
      go_enter Try.func35, Try.ntmps35
      go_wp2_with fail
      go_ret
      exact ⟨rfl, 0, rfl⟩
end Go.Proofs.Ytfhldldcfdimhaa
