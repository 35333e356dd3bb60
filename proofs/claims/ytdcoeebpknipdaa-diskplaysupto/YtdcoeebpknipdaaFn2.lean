/- Contracts: names, and what is refused. -/
import Derived.Test.YtdcoeebpknipdaaFn1
import Derived.Test.YtdcoeebpknipdaaApp
namespace Go.Proofs.Ytdcoeebpknipdaa
open Go.RowKit Go.Maps

theorem cutAt_any (w : World) (d N : Nat) (F : Nat → Prop) (s : St) (a b : Int) (h : Dk w d F N s) : Calls Try.prog 28 #[.pointer (some ⟨d, 0, none⟩), .int .i64 a, .int .i64 b] w fun e w' => e = .returned (.tuple #[]) ∧ Dk w' d F N { s with set := true, op := a, part := b } ∧ Fr F w w' := by
  obtain ⟨mo, Z, h⟩ := h
  have c3 := h.b.cell 3 _ rfl
  have c4 := h.b.cell 4 _ rfl
  have c5 := h.b.cell 5 _ rfl
  have f3 := h.b.free 3
  have f4 := h.b.free 4
  have f5 := h.b.free 5
  have H : Hid _ := h
  clear h
  go_enter Try.func28, Try.ntmps28
  go_wp2_with fail
  go_end0
  have h := H.out
  have x3 := ((h.b.set 3 (.bool true)).set 4 (.int .i64 a)).set 5 (.int .i64 b)
  refine ⟨rfl, ⟨mo, Z, h.box _ x3 (fun i hi => ?_) (by simp) rfl h.ops⟩, ?_⟩
  · rw [Below.heap_setCell _ _ _ _ hi, Below.heap_setCell _ _ _ _ hi, Below.heap_setCell _ _ _ _ hi]
  · exact ((Fr.of_grown grown_setCell fun j hj => .inl (by cases hj; exact h.f)).trans (Fr.of_grown (F := F) grown_setCell fun j hj => .inl (by cases hj; exact h.f)) fun _ _ h => h).trans (Fr.of_grown (F := F) grown_setCell fun j hj => .inl (by cases hj; exact h.f)) fun _ _ h => h
theorem bytes_below (w : World) (e : TypeId) (s : ByteArray) : Below w.heap.size w (Lib.bytesWorld w e s) := ⟨rfl, rfl, rfl, by rw [Lib.bytesWorld_size]; omega, fun i hi => Lib.bytesWorld_at_old w e s i hi⟩
theorem isNm_no {t : Str} {i : Nat} (hi : i < t.length) (h : nmB (t.getD i 0) = false) : isNm t = false := by
  unfold isNm
  have : t.all nmB = false := by
    rw [List.all_eq_false]
    refine ⟨t[i], List.getElem_mem hi, ?_⟩
    rw [show t[i] = t.getD i 0 by simp [hi], h]
    simp
  rw [this, Bool.and_false]
theorem isNm_yes {t : Str} (h1 : ¬ t.length < 1) (h2 : ¬ 64 < t.length) (h : ∀ i, i < t.length → nmB (t.getD i 0) = true) : isNm t = true := by
  unfold isNm
  have : t.all nmB = true := by
    rw [List.all_eq_true]
    intro c hc
    obtain ⟨i, hi, rfl⟩ := List.getElem_of_mem hc
    have := h i hi
    rwa [show t.getD i 0 = t[i] by simp [hi]] at this
  rw [this]
  simp [h1, h2]
set_option maxHeartbeats 800000 in
theorem isName_any (w : World) (t : Str) (ht : t.length ≤ maxLen) : Calls Try.prog 62 #[.string ⟨t.toArray⟩] w fun e w' => e = .returned (.bool (isNm t)) ∧ Below w.heap.size w w' := by
  unfold maxLen at ht
  have hsz := str_size t
  by_cases h1 : t.length < 1
  · have h1z : (t.length : Int) < 1 := by omega
    have HE : Hid (isNm t = false) := by apply hide; unfold isNm; simp [h1]
    go_enter Try.func62, Try.ntmps62
    go_wp2_with fail
    go_ret
    exact ⟨by rw [HE.out]; rfl, Below.refl _ _⟩
  have h1z : ¬ (t.length : Int) < 1 := by omega
  by_cases h2 : 64 < t.length
  · have h2z : (64 : Int) < (t.length : Int) := by omega
    have HE : Hid (isNm t = false) := by apply hide; unfold isNm; simp [h2]
    go_enter Try.func62, Try.ntmps62
    go_wp2_with fail
    go_ret
    exact ⟨by rw [HE.out]; rfl, Below.refl _ _⟩
  have h2z : ¬ (64 : Int) < (t.length : Int) := by omega
  have hcv := Lib.run_convert_string_bytes (P := Try.prog) w 9 29 5 ⟨t.toArray⟩ Try.underlying9 Try.underlying29 Try.underlying5
  rw [hsz] at hcv
  have hcell : ∀ j, j < t.length → (Lib.bytesWorld w 5 ⟨t.toArray⟩).cell? ⟨w.heap.size, j, none⟩ = some (.int .u8 ((t.getD j 0).toNat : Int)) := fun j hj => by
    have := Lib.bytesWorld_cell w 5 ⟨t.toArray⟩ j (by rw [hsz]; exact hj)
    simpa using this
  obtain ⟨W, hW⟩ : ∃ W, W = Lib.bytesWorld w 5 ⟨t.toArray⟩ := ⟨_, rfl⟩
  have HB : Hid (Below w.heap.size w W) := by apply hide; rw [hW]; exact bytes_below _ _ _
  rw [← hW] at hcv hcell
  obtain ⟨cp, hcp⟩ : ∃ cp, cp = grownCap w t.length 0 5 := ⟨_, rfl⟩
  rw [← hcp] at hcv
  have HC : Aside (∀ j, j < t.length → W.cell? ⟨w.heap.size, j, none⟩ = some (.int .u8 ((t.getD j 0).toNat : Int))) := hcell
  clear hcell hW hcp
  go_enter Try.func62, Try.ntmps62
  go_wp2_with fail
  go_loop [16] (fun i => ∃ k : Nat, k ≤ t.length ∧ i = .int .i64 k ∧ Hid (∀ i, i < k → nmB (t.getD i 0) = true)) (fun i => t.length - (intOf i).toNat)
  case atStart => exact ⟨0, by omega, rfl, fun i hi => by omega⟩
  case round =>
    obtain ⟨k, hk, rfl, HA⟩ := hrel
    by_cases hlt : k < t.length
    · have hltz : (k : Int) < (t.length : Int) := by omega
      have hck := HC.out k hlt
      obtain ⟨z, hz⟩ : ∃ z : Nat, z = (t.getD k 0).toNat := ⟨_, rfl⟩
      rw [← hz] at hck
      have HZ : Hid (z = (t.getD k 0).toNat) := hz
      have hz8 : z < 256 := by rw [hz]; exact (t.getD k 0).toNat_lt
      clear hz
      by_cases ha : z < 33
      · have haz : (z : Int) < 33 := by omega
        go_wp2_with fail
        go_ret
        exact ⟨by rw [isNm_no hlt (by unfold nmB; rw [← HZ.out]; simp [ha])]; rfl, HB.out⟩
      · have haz : ¬ (z : Int) < 33 := by omega
        by_cases hb : 126 < z
        · have hbz : (126 : Int) < (z : Int) := by omega
          go_wp2_with fail
          go_ret
          exact ⟨by rw [isNm_no hlt (by unfold nmB; rw [← HZ.out]; simp [hb])]; rfl, HB.out⟩
        · have hbz : ¬ (126 : Int) < (z : Int) := by omega
          go_wp2_with fail
          go_round
          case rel =>
            refine ⟨k + 1, by omega, by go_num, fun i hi => ?_⟩
            by_cases hik : i = k
            · subst hik; unfold nmB; rw [← HZ.out]; simp [ha, hb]
            · exact HA.out i (by omega)
          case measure => simp [intOf]; omega
    · have hltz : ¬ (k : Int) < (t.length : Int) := by omega
      obtain rfl : k = t.length := by omega
      go_wp2_with fail
      go_ret
      exact ⟨by rw [isNm_yes h1 h2 HA.out]; rfl, HB.out⟩
theorem has_any (w : World) (d N : Nat) (F : Nat → Prop) (s : St) (t : Str) (h : Dk w d F N s) (ht : t.length ≤ maxLen) : Calls Try.prog 47 #[.pointer (some ⟨d, 0, none⟩), .string ⟨t.toArray⟩] w fun e w' => e = .returned (.bool (hasF s.fs t)) ∧ w' = w := by
  obtain ⟨mo, Z, h⟩ := h
  have c0 := h.b.cell 0 _ rfl
  obtain ⟨v, hl⟩ := look_ok h.m t ht
  rw [← h.has t] at hl
  clear h
  go_enter Try.func47, Try.ntmps47
  go_wp2_with fail
  go_ret
  exact ⟨rfl, rfl⟩
end Go.Proofs.Ytdcoeebpknipdaa
