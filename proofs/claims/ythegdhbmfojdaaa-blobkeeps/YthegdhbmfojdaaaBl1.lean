/- Contracts of package blob: names, what is refused, Get, Delete. -/
import Derived.Test.YthegdhbmfojdaaaFn12
import Derived.Test.YthegdhbmfojdaaaWUnframe
import Derived.Laws.Concat
namespace Go.Proofs.Ythegdhbmfojdaaa
open Go.RowKit Go.Maps Go.Sort
set_option linter.unusedVariables false

def bNm (s : Str) : Bool := !(decide (s.length < 1) || decide (62 < s.length)) && s.all nmB
theorem bNm_no {t : Str} {i : Nat} (hi : i < t.length) (h : nmB (t.getD i 0) = false) : bNm t = false := by
  unfold bNm
  have : t.all nmB = false := by
    rw [List.all_eq_false]
    refine ⟨t[i], List.getElem_mem hi, ?_⟩
    rw [show t[i] = t.getD i 0 by simp [hi], h]
    simp
  rw [this, Bool.and_false]
theorem bNm_yes {t : Str} (h1 : ¬ t.length < 1) (h2 : ¬ 62 < t.length) (h : ∀ i, i < t.length → nmB (t.getD i 0) = true) : bNm t = true := by
  unfold bNm
  have : t.all nmB = true := by
    rw [List.all_eq_true]
    intro c hc
    obtain ⟨i, hi, rfl⟩ := List.getElem_of_mem hc
    have := h i hi
    rwa [show t.getD i 0 = t[i] by simp [hi]] at this
  rw [this]
  simp [h1, h2]
set_option maxHeartbeats 800000 in
theorem bname_any (w : World) (t : Str) (ht : t.length ≤ maxLen) : Calls Try.prog 59 #[.string ⟨t.toArray⟩] w fun e w' => e = .returned (.bool (bNm t)) ∧ Below w.heap.size w w' := by
  unfold maxLen at ht
  have hsz := str_size t
  by_cases h1 : t.length < 1
  · have h1z : (t.length : Int) < 1 := by omega
    have HE : Hid (bNm t = false) := by apply hide; unfold bNm; simp [h1]
    go_enter Try.func59, Try.ntmps59
    go_wp2_with fail
    go_ret
    exact ⟨by rw [HE.out]; rfl, Below.refl _ _⟩
  have h1z : ¬ (t.length : Int) < 1 := by omega
  by_cases h2 : 62 < t.length
  · have h2z : (62 : Int) < (t.length : Int) := by omega
    have HE : Hid (bNm t = false) := by apply hide; unfold bNm; simp [h2]
    go_enter Try.func59, Try.ntmps59
    go_wp2_with fail
    go_ret
    exact ⟨by rw [HE.out]; rfl, Below.refl _ _⟩
  have h2z : ¬ (62 : Int) < (t.length : Int) := by omega
  have hcv := Lib.run_convert_string_bytes (P := Try.prog) w 9 33 5 ⟨t.toArray⟩ Try.underlying9 Try.underlying33 Try.underlying5
  rw [hsz] at hcv
  have hcell : ∀ j, j < t.length → (Lib.bytesWorld w 5 ⟨t.toArray⟩).cell? ⟨w.heap.size, j, none⟩ = some (.int .u8 ((t.getD j 0).toNat : Int)) := fun j hj => by
    have := Lib.bytesWorld_cell w 5 ⟨t.toArray⟩ j (by rw [hsz]; exact hj)
    simpa using this
  obtain ⟨W, hW⟩ : ∃ W, W = Lib.bytesWorld w 5 ⟨t.toArray⟩ := ⟨_, rfl⟩
  have HB : Hid (Below w.heap.size w W) := by apply hide; rw [hW]; exact bytes_below _ _ _
  rw [← hW] at hcv hcell
  obtain ⟨cp, hcp⟩ : ∃ cp, cp = grownCap w t.length 0 5 := ⟨_, rfl⟩
  rw [← hcp] at hcv
  have HC : Aside (∀ j, j < t.length → W.cell? ⟨w.heap.size, j, none⟩ = some (.int .u8 ((t.getD j 0).toNat : Int))) := hcell
  clear hcell hW hcp
  go_enter Try.func59, Try.ntmps59
  go_wp2_with fail
  go_loop [16] (fun i => ∃ k : Nat, k ≤ t.length ∧ i = .int .i64 k ∧ Hid (∀ i, i < k → nmB (t.getD i 0) = true)) (fun i => t.length - (intOf i).toNat)
  case atStart => exact ⟨0, by omega, rfl, fun i hi => by omega⟩
  case round =>
    obtain ⟨k, hk, rfl, HA⟩ := hrel
    by_cases hlt : k < t.length
    · have hltz : (k : Int) < (t.length : Int) := by omega
      have hck := HC.out k hlt
      obtain ⟨z, hz⟩ : ∃ z : Nat, z = (t.getD k 0).toNat := ⟨_, rfl⟩
      rw [← hz] at hck
      have HZ : Hid (z = (t.getD k 0).toNat) := hz
      have hz8 : z < 256 := by rw [hz]; exact (t.getD k 0).toNat_lt
      clear hz
      by_cases ha : z < 33
      · have haz : (z : Int) < 33 := by omega
        go_wp2_with fail
        go_ret
        exact ⟨by rw [bNm_no hlt (by unfold nmB; rw [← HZ.out]; simp [ha])]; rfl, HB.out⟩
      · have haz : ¬ (z : Int) < 33 := by omega
        by_cases hb : 126 < z
        · have hbz : (126 : Int) < (z : Int) := by omega
          go_wp2_with fail
          go_ret
          exact ⟨by rw [bNm_no hlt (by unfold nmB; rw [← HZ.out]; simp [hb])]; rfl, HB.out⟩
        · have hbz : ¬ (126 : Int) < (z : Int) := by omega
          go_wp2_with fail
          go_round
          case rel =>
            refine ⟨k + 1, by omega, by go_num, fun i hi => ?_⟩
            by_cases hik : i = k
            · subst hik; unfold nmB; rw [← HZ.out]; simp [ha, hb]
            · exact HA.out i (by omega)
          case measure => simp [intOf]; omega
    · have hltz : ¬ (k : Int) < (t.length : Int) := by omega
      obtain rfl : k = t.length := by omega
      go_wp2_with fail
      go_ret
      exact ⟨by rw [bNm_yes h1 h2 HA.out]; rfl, HB.out⟩

/-- A store behind a pointer to the block p, on the disk at d. -/
def Sr (w : World) (p d : Nat) : Prop := BxA w p 71 #[.pointer (some ⟨d, 0, none⟩)]
theorem Sr.below {w w' : World} {p d : Nat} (h : Sr w p d) (hb : Below w.heap.size w w') : Sr w' p d := by
  unfold Sr BxA at h ⊢
  rw [hb.block _ (BxA.lt h)]
  exact h
theorem Sr.fr {w w' : World} {p d : Nat} {F : Nat → Prop} (h : Sr w p d) (hf : Fr F w w') (hp : ¬ F p) : Sr w' p d := by
  unfold Sr BxA at h ⊢
  rw [hf.block _ (BxA.lt h) hp]
  exact h
def rfB (s : St) (x : Str) : Nat := if s.off then 122 else if bNm x then 0 else 1
set_option maxHeartbeats 800000 in
theorem refusesB_any (w : World) (p d N : Nat) (F : Nat → Prop) (s : St) (x : Str) (h : Dk w d F N s) (hs : Sr w p d) (hx : x.length ≤ maxLen) :
    Calls Try.prog 44 #[.pointer (some ⟨p, 0, none⟩), .string ⟨x.toArray⟩] w fun e w' => e = .returned (.int .i64 (rfB s x : Nat)) ∧ Below w.heap.size w w' := by
  have kO := off_any w d N F s h
  have kN := bname_any w x hx
  have c0 := BxA.cell hs 0 _ rfl
  unfold rfB
  clear h hs hx
  cases ho : s.off with
  | true =>
    rw [ho] at kO
    go_enter Try.func44, Try.ntmps44
    go_wp2_with fail
    refine kO.mono ?_
    rintro e w1 ⟨rfl, rfl⟩
    go_wp2_with fail
    go_ret
    exact ⟨rfl, Below.refl _ _⟩
  | false =>
    rw [ho] at kO
    go_enter Try.func44, Try.ntmps44
    go_wp2_with fail
    refine kO.mono ?_
    rintro e w1 ⟨rfl, rfl⟩
    clear kO
    go_wp2_with fail
    refine kN.mono ?_
    rintro e w2 ⟨rfl, b2⟩
    have HB2 : Hid _ := b2
    clear kN b2
    cases hn : bNm x with
    | true =>
      go_wp2_with fail
      go_ret
      exact ⟨rfl, HB2.out⟩
    | false =>
      go_wp2_with fail
      go_ret
      exact ⟨rfl, HB2.out⟩
end Go.Proofs.Ythegdhbmfojdaaa
