/- The contract of dict.add, where the text may stand there. -/
import Derived.Test.YtfhldldcfdimhaaAdd2
namespace Go.Proofs.Ytfhldldcfdimhaa
open Go.RowKit Go.Shelf Go.Sort

theorem Own.other {w w' : World} {base e h : Nat} {v : Value} {xs : List Value} (ho : Own w base e v xs) (hg : w.grownBy w' (some h)) (hne : v.ownBlock ≠ some h) : Own w' base e v xs := by
  refine ⟨ho.1, ?_⟩
  rcases ho.2 with h2 | ⟨g, cap, cur, rfl, h2, h3, h4⟩
  · exact .inl h2
  · refine .inr ⟨g, cap, cur, rfl, h2, ?_, h4⟩
    rw [hg.block g (Array.getElem?_eq_some_iff.1 h3).1 (by first | exact hne | exact fun y => hne y.symm)]
    exact h3
theorem Own.slice {w : World} {base e : Nat} {v : Value} {xs : List Value} (h : Own w base e v xs) : ∃ ao n cap, v = .slice ao n cap := by
  obtain ⟨ao, cap, hv, _⟩ := h.rds
  exact ⟨_, _, _, hv⟩
/-- Texts don't lie in a dictionary's struct. -/
theorem own_ne {w : World} {base B : Nat} {v u : Value} {xs : List Value} (ho : Own w base 9 v xs) (hB : w.heap[B]? = some (.cells #[u] 57 (0, 0))) : v.ownBlock ≠ some B := by
  intro hv
  rcases ho.2 with ⟨rfl, _⟩ | ⟨g, cap, cur, rfl, h2, h3, h4⟩
  · simp [Value.ownBlock] at hv
  · simp [Value.ownBlock] at hv
    subst hv
    rw [hB] at h3
    simp at h3
set_option maxHeartbeats 1600000 in
/-- Behind a text: what may stand there. -/
theorem add_good (w : World) (base B : Nat) (v : Value) (ts : List Str) (same : Nat) (rest : Str) (h : DD w base B v ts) (hl : ts.length ≤ 8796093022207) (h0 : 0 < ts.length) (hs : same ≤ (prv ts ts.length).length) (_hr : rest.length ≤ 140737488355328)
    (hbase : base ≤ w.heap.size) (hgt : prv ts ts.length < (prv ts ts.length).take same ++ rest) (hlong : ((prv ts ts.length).take same ++ rest).length ≤ 64) (hcp : cpl (prv ts ts.length) ((prv ts ts.length).take same ++ rest) = same) :
    Calls Try.prog 35 #[.pointer (some ⟨B, 0, none⟩), .int .u64 same, .string ⟨rest.toArray⟩] w fun e w' => e = .returned (.bool true) ∧ ∃ v', DD w' base B v' (ts ++ [(prv ts ts.length).take same ++ rest]) ∧ Below base w w' := by
  have hf := prv_few h.few ts.length
  have hcB : w.cell? ⟨B, 0, none⟩ = some v := by rw [cell_of_row w B 0 _ 57 (0, 0) h.cell]; rfl
  obtain ⟨ao, n, cap, rfl⟩ : ∃ ao n cap, v = .slice ao n cap := by obtain ⟨ao, cap, hv, _⟩ := h.own.rds; exact ⟨_, _, _, hv⟩
  obtain ⟨hn, _, _, h3⟩ := h.own.rds.cells
  rw [sv_length] at hn h3
  subst hn
  obtain ⟨b, off, rfl, hc⟩ := h3 h0
  have hck := hc (ts.length - 1) _ (sv_get ts (ts.length - 1) (by omega))
  have e : ts.getD (ts.length - 1) [] = prv ts ts.length := by
    obtain ⟨j, hj⟩ : ∃ j, ts.length = j + 1 := ⟨ts.length - 1, by omega⟩
    rw [hj]; rfl
  rw [e] at hck
  generalize prv ts ts.length = a at *
  have hsa := str_size a
  have hsr := str_size rest
  have hcat := str_cat a rest same
  have htl : (a.take same ++ rest).length = same + rest.length := by simp; omega
  generalize a.take same ++ rest = t at *
  have hst := str_size t
  obtain ⟨m, hm⟩ : ∃ m, ts.length - 1 = m := ⟨_, rfl⟩
  have hm1 : ((ts.length : Nat) : Int) - 1 = (m : Int) := by omega
  have hm2 : (m : Int) < (ts.length : Int) := by omega
  have hm3 : (0 : Int) ≤ (m : Int) := by omega
  have hsi : ¬ (a.length : Int) < (same : Int) := by omega
  have hsi' : (same : Int) ≤ (a.length : Int) := by omega
  have hne : ¬ (ts.length : Int) = 0 := by omega
  have hneb : ((ts.length : Int) == 0) = false := by rw [beq_eq_false_iff_ne]; exact hne
  rw [hm] at hck
  have HD := hide h
  obtain ⟨n, hnn⟩ : ∃ n, n = ts.length := ⟨_, rfl⟩
  rw [← hnn] at hcB hm1 hm2 hne hneb hl
  have HNN := hide hnn
  have own := h.own
  rw [← hnn] at own
  clear hm h h3 hc e h0 hnn
  have hni : ¬ n = 0 := by omega
  have hx : Op.bytesLess t a = false := by rw [bytesLess_eq]; exact decide_eq_false (fun y => lt_irr _ (lt_tr hgt y))
  have hy : (t == a) = false := beq_eq_false_iff_ne.2 (fun y => by rw [y] at hgt; exact lt_irr _ hgt)
  have hy' : ¬ t = a := fun y => by rw [y] at hgt; exact lt_irr _ hgt
  have kL := tooLong_any w t
  rw [decide_eq_false (by omega)] at kL
  have kS := same_any w a t (by omega) (by omega)
  rw [hcp] at kS
  clear hgt
  go_enter Try.func35, Try.ntmps35
  go_wp2_with fail
  refine kL.mono ?_
  rintro e w1 ⟨rfl, rfl⟩
  go_wp2_with fail
  refine kS.mono ?_
  rintro e w2 ⟨rfl, q, rfl⟩
  obtain ⟨V, hV⟩ : ∃ V, V = w1.drewN q := ⟨_, rfl⟩
  have bV : Below w1.heap.size w1 V := by rw [hV]; exact below_dN (Below.refl _ _) _
  have ownV := own.below bV
  have hBV : V.heap[B]? = some (.cells #[.slice (some ⟨b, off, none⟩) n cap] 57 (0, 0)) := by
    have := (unhide HD).cell
    rw [← unhide HNN] at this
    rw [hV]; exact this
  have hBl : B < V.heap.size := (Array.getElem?_eq_some_iff.1 hBV).1
  have hBc := cell_of_row V B 0 _ 57 (0, 0) hBV
  have hbV : base ≤ V.heap.size := Nat.le_trans hbase bV.size
  have hnB : (Value.slice (some ⟨b, off, none⟩) n cap).ownBlock ≠ some B := own_ne ownV hBV
  have ownA : Own (V.alloc (.cells #[.string ⟨t.toArray⟩] 9)) base 9 (.slice (some ⟨b, off, none⟩) n cap) (sv ts) := ownV.below ((Below.refl _ _).alloc (Nat.le_refl _) _)
  have hbn : (ts.length + ([t] : List Str).length) * 16 ≤ 140737488355328 := by rw [← unhide HNN]; simp; omega
  rw [← hV]
  have hcB : V.cell? ⟨B, 0, none⟩ = some (.slice (some ⟨b, off, none⟩) n cap) := hBc
  clear hV hck
  go_wp2_with (first
    | (at_builtin; refine wp_apps rfl (.tmp 65) (.tmp 67) rfl base _ ts [t] rfl ownA (some ⟨V.heap.size, 0, none⟩) 1 1 rfl rfl (fun h => by cases h) (one_src V t) hbn (by simp; omega) ?_; intro v4 w4 o4 g4; have hB4 : w4.heap[B]? = some (.cells #[.slice (some ⟨b, off, none⟩) n cap] 57 (0, 0)) := (g4.block B (by simp; omega) (by first | exact hnB | exact fun y => hnB y.symm)).trans ((Below.heap_alloc V _ B hBl).trans hBV); have hc4 : w4.cell? ⟨B, 0, none⟩ = some (.slice (some ⟨b, off, none⟩) n cap) := cell_of_row w4 B 0 _ 57 (0, 0) hB4; obtain ⟨a4, s4, c4, rfl⟩ := o4.slice; have hf4 := frozen_of_row w4 B 0 _ 57 hB4))
  go_ret
  have n4 := own_ne o4 hB4
  have b4 : Below base w1 w4 := grown_belows ((bV.mono hbase).alloc hbV _) (by simp; omega) ownA g4
  refine ⟨rfl, _, ⟨heap_setCell_same w4 B 0 _ 57 _ hB4, (unhide HD).ge, o4.other grown_setCell n4, n4, ?_⟩, b4.setCell (unhide HD).ge _⟩
  intro u hu
  rcases List.mem_append.1 hu with hu | hu
  · exact (unhide HD).few u hu
  · simp at hu; subst hu; exact hlong
end Go.Proofs.Ytfhldldcfdimhaa
