/- The contract of dict.add at the first text. -/
import Derived.Test.YtfhldldcfdimhaaAdd3
namespace Go.Proofs.Ytfhldldcfdimhaa
open Go.RowKit Go.Shelf Go.Sort

set_option maxHeartbeats 1600000 in
theorem first_bad (w : World) (base B : Nat) (v : Value) (rest : Str) (z : Int) (hz : z = 0) (h : DD w base B v []) (hl : 64 < rest.length) (hr : rest.length ≤ 140737488355328) :
    Calls Try.prog 35 #[.pointer (some ⟨B, 0, none⟩), .int .u64 z, .string ⟨rest.toArray⟩] w fun e w' => e = .returned (.bool false) ∧ w' = w := by
  subst hz
  have hcB : w.cell? ⟨B, 0, none⟩ = some v := by rw [cell_of_row w B 0 _ 57 (0, 0) h.cell]; rfl
  obtain ⟨ao, n, cap, rfl⟩ := h.own.slice
  have hn := h.own.rds.cells.1
  simp [sv] at hn
  subst hn
  have kL := tooLong_any w rest
  rw [decide_eq_true hl] at kL
  have hcat := str_cat [] rest 0
  rw [List.take_nil, List.nil_append] at hcat
  have hcat2 : (⟨#[]⟩ : ByteArray) ++ ⟨rest.toArray⟩ = ⟨rest.toArray⟩ := by rw [show (#[] : Array UInt8) = ([] : Str).toArray from rfl, ByteArray.mk_append_mk, List.nil_append]
  have hsr := str_size rest
  clear h
  go_enter Try.func35, Try.ntmps35
  go_wp2_with fail
  refine kL.mono ?_
  rintro e w1 ⟨rfl, rfl⟩
  go_wp2_with fail
  go_ret
  exact ⟨rfl, rfl⟩
set_option maxHeartbeats 1600000 in
theorem first_good (w : World) (base B : Nat) (v : Value) (rest : Str) (z : Int) (hz : z = 0) (h : DD w base B v []) (hl : rest.length ≤ 64) (hbase : base ≤ w.heap.size) :
    Calls Try.prog 35 #[.pointer (some ⟨B, 0, none⟩), .int .u64 z, .string ⟨rest.toArray⟩] w fun e w' => e = .returned (.bool true) ∧ ∃ v', DD w' base B v' [rest] ∧ Below base w w' := by
  subst hz
  have hcB : w.cell? ⟨B, 0, none⟩ = some v := by rw [cell_of_row w B 0 _ 57 (0, 0) h.cell]; rfl
  obtain ⟨ao, n, cap, rfl⟩ := h.own.slice
  have hn := h.own.rds.cells.1
  simp [sv] at hn
  subst hn
  have kL := tooLong_any w rest
  rw [decide_eq_false (by omega)] at kL
  have kS := same_any w [] rest (by simp) (by omega)
  rw [cpl_nil] at kS
  have hcat := str_cat [] rest 0
  rw [List.take_nil, List.nil_append] at hcat
  have hcat2 : (⟨#[]⟩ : ByteArray) ++ ⟨rest.toArray⟩ = ⟨rest.toArray⟩ := by rw [show (#[] : Array UInt8) = ([] : Str).toArray from rfl, ByteArray.mk_append_mk, List.nil_append]
  have hsr := str_size rest
  have HD := hide h
  have own := h.own
  clear h
  go_enter Try.func35, Try.ntmps35
  go_wp2_with fail
  refine kL.mono ?_
  rintro e w1 ⟨rfl, rfl⟩
  go_wp2_with fail
  refine kS.mono ?_
  rintro e w2 ⟨rfl, q, rfl⟩
  obtain ⟨V, hV⟩ : ∃ V, V = w1.drewN q := ⟨_, rfl⟩
  have bV : Below w1.heap.size w1 V := by rw [hV]; exact below_dN (Below.refl _ _) _
  have ownV := own.below bV
  have hBV : V.heap[B]? = some (.cells #[.slice ao 0 cap] 57 (0, 0)) := by
    rw [hV]; exact (unhide HD).cell
  have hBl : B < V.heap.size := (Array.getElem?_eq_some_iff.1 hBV).1
  have hBc := cell_of_row V B 0 _ 57 (0, 0) hBV
  have hbV : base ≤ V.heap.size := Nat.le_trans hbase bV.size
  have hnB : (Value.slice ao 0 cap).ownBlock ≠ some B := own_ne ownV hBV
  have ownA : Own (V.alloc (.cells #[.string ⟨rest.toArray⟩] 9)) base 9 (.slice ao 0 cap) (sv []) := ownV.below ((Below.refl _ _).alloc (Nat.le_refl _) _)
  rw [← hV]
  have hcB : V.cell? ⟨B, 0, none⟩ = some (.slice ao 0 cap) := hBc
  clear hV
  go_wp2_with (first
    | (at_builtin; refine wp_apps rfl (.tmp 65) (.tmp 67) rfl base _ [] [rest] rfl ownA (some ⟨V.heap.size, 0, none⟩) 1 1 rfl rfl (fun h => by cases h) (one_src V rest) (by simp) (by simp; omega) ?_; intro v4 w4 o4 g4; have hB4 : w4.heap[B]? = some (.cells #[.slice ao 0 cap] 57 (0, 0)) := (g4.block B (by simp; omega) (by first | exact hnB | exact fun y => hnB y.symm)).trans ((Below.heap_alloc V _ B hBl).trans hBV); have hc4 : w4.cell? ⟨B, 0, none⟩ = some (.slice ao 0 cap) := cell_of_row w4 B 0 _ 57 (0, 0) hB4; obtain ⟨a4, s4, c4, rfl⟩ := o4.slice; have hf4 := frozen_of_row w4 B 0 _ 57 hB4))
  go_ret
  have n4 := own_ne o4 hB4
  have b4 : Below base w1 w4 := grown_belows ((bV.mono hbase).alloc hbV _) (by simp; omega) ownA g4
  refine ⟨rfl, _, ⟨heap_setCell_same w4 B 0 _ 57 _ hB4, (unhide HD).ge, o4.other grown_setCell n4, n4, ?_⟩, b4.setCell (unhide HD).ge _⟩
  intro u hu
  simp at hu; subst hu; exact hl
end Go.Proofs.Ytfhldldcfdimhaa
